import PyProof.Rows.All
import Wide.All
import OpenK.AllK
import Wide.FinOn
import Lean
import PyProof.EqAt
import PyProof.EqKinds
import PyProof.TupleCall
import PyProof.NeKinds
import PySem.Challenge.RW_loveboon_k23_whole_folk_numbered_otherwi
noncomputable section
open Array renaming getElem?_eq_getElem→Qq,length_toList→Qw,getElem?_toList→QW,getD_eq_getD_getElem?→RT,getElem?_eq_none→Uj
open Bool renaming false_ne_true→Qc,and_eq_true→Rz,eq_iff_iff→VL,false_eq_true→Wb,false_or→W9,or_eq_true→Yd
open Decidable renaming byContradiction→U5
open False renaming elim→UJ
open ForInStep renaming yield→Ve
open Int renaming toNat_natCast→QC,emod_lt_of_pos→QT,emod_nonneg→Rn,le_refl→RC,zero_add→Tu,eq_ofNat_of_zero_le→Ua,toNat→V2
open List renaming length_map→Py,getElem?_eq_getElem→PJ,getD_eq_getElem?_getD→PL,map_append→PQ,range→P0,mem_cons_self→Qa,size_toArray→Qe,mem_cons_of_mem→Qg,replicate→Qh,length_append→Qj,take_length→Qk,length_take→Ql,getElem?_map→Qn,length_cons→Qo,length_range→Qs,mem_of_getElem?→Qy,take_add_one→QF,map_cons→QM,getElem_mem→Rg,mem_cons→Ri,length_replicate→Rj,getElem?_eq_none→Rk,foldl_cons→Rm,lookup_cons→Rr,mem_append_right→Rv,take_zero→Ry,not_mem_nil→RL,getElem?_range→RM,pairwise_map→RP,map_map→RQ,getElem_of_mem→RX,pairwise_cons→R7,replicate_succ→Su,filter_cons→Sx,range_succ→SM,append_nil→SN,map_congr_left→SQ,sum_cons→S9,length_filter_le→Tg,drop_eq_getElem_cons→Ti,getElem_toArray→Tr,append_assoc→Tt,take_succ_cons→TJ,getElem?_replicate→T9,mem_singleton→Ui,zipWith→U4,forIn_cons→Vc,find?_cons→Vd,map_nil→Vk,forIn_nil→Vl,flatten_cons→Vm,drop_of_length_le→Vn,foldl→Vr,any_cons→Vu,all_cons→Vv,length→Vz,mem_filter→VH,mem_map_of_mem→VN,length_zipWith→VP,filterMap_cons→VR,sum→V8,getElem?_append_right→V9,filter_append→Wa,filter_congr→Wg,length_erase_of_mem→Wl,zipIdx_cons→Wr,length_drop→Ws,getElem_inj→Wt,zipIdx_nil→WN,nil_append→WQ,getElem?_toArray→WR,replicate_succ'→WY,mem_erase_of_ne→W0,mem_append_left→W2,map_inj_right→Xf,toArray→Xq,ext_getElem?→Xr,eraseIdxIfInBounds_toArray→Xz,eq_nil_of_length_eq_zero→X5,of_mem_zip→X8
open List.Pairwise renaming imp_of_mem→Tw,nil→Xu
open Nat renaming le_refl→PX,lt_of_lt_of_le→Qp,ne_of_lt→Qv,zero_le→QB,le_trans→Q6,lt_succ_of_lt→RB,ne_of_gt→R6,lt_or_ge→Sh,lt_irrefl→S8,lt_succ_self→Te,le_succ→Tq,lt_of_le_of_lt→Uh,le_of_lt→U3,pow_le_pow_right→Vy,not_lt_zero→VG,lt_of_succ_lt_succ→Wz,succ_le_succ→XQ
open Ne renaming symm→TF
open Option renaming map_some→WM
open Option.some renaming inj→QJ
open Or renaming inl→Qm,inr→Wk
open PyProof.Rows renaming callWith_type1→Q9,IntsAre→Rh,step_dedup→R8,seqObj→Sw,SortKind→Vx,pairsOf→V0,AllBare→WD,envOfC→Xb,slot_tuple_getitem→Xy,callWith_builtin1→XN
open PyProof.Rows.F renaming plain_set_update_loop→Wu
open PySem renaming wpAny_bind→Px,Shared→PB,wpAny_pure→PK,wpAny→Qd,model→Qt,Program→Qx,starEach→Qz,mainGlobals→QD,World→QG,Around→QK,wpAny_newObj_type→QL,wpAny_loadPart'→QR,wpAny_field→QX,wpAny_callSpecial?_slot→Q3,bootBuiltins→Q5,wpAny_call_entry→Ra,Heap→Rb,wpAny_seqItems→Rf,Str→Rx,wpAny_setField_rec→RG,rawInt→RJ,mem_of_lookup→RV,codeAny_builtin→RZ,wpAny_setField→Sd,Builtin→Ss,wpAny_Call_Name_kw→Sv,plainId_quiet→Sy,wpAny_mono→SJ,wpAny_of_eq→S5,wpAny_holding→S6,wpAny_attempt→S7,eval→Tc,compareOp→Td,builtinLookup_eq_fast→Tf,pyNext→Th,wpAny_ite_false→Tj,wpAny_truthy_bool→Tp,Obj→Tv,wpAny_isInstance→TQ,isSubtype_type→TV,firstArgMember→TX,wpAny_letGo→Uc,wpAny_pyIter_tuple→Ud,call_meets→Ue,wpAny_passesOwn→Uk,IsZip→Ul,FuncData→Um,wpAny_onRaise→Uo,behindInMarks→Up,backTo→Uq,wpAny_setState_of→Us,wpAny_pyIter_list→Ut,wpAny_rule→Uv,sizeLine_eq→Uw,binaryOp→Ux,SetTable→UG,wpAny_askSetting→UT,intKind→UW,codeAny→U0,IsPair→U7,wpAny_updateSeq→Va,typeLookup_type→Vb,sysModules→Vg,Scope→Vi,Pos→Vo,pickOrder→Vp,assignEach→Vq,sliceBounds→Vw,wpAny_specialOf→VD,argsOk→VF,wpAny_setEntries_of→VM,wpAny_tryCatch→V3,typeIs_int→V4,isSubtype_stop→V5,NameKind→V7,wpAny_binaryOp_repeat_ref→Wc,wpAny_pyIter_enum→We,signature?_of→Wi,wpAny_pyIter_zip→Wn,seqItems?→Wo,codeAny_mono→Ww,wpAny_execs_nil→WK,letOwnedTupleGo→WL,wpAny_updateSeq_pair→WT,bindArgs→WW,getItem→W3,BindsTo→W4,wpAny_handled→W5,field→W6,tupleKind_room_in1→Xa,Result→Xd,wpAny_pyIter_slot→Xh,valueAt→Xi,relayAll→Xj,foldedSetIterable→Xk,callerA→Xl,callType_new→Xm,updateSeq→XC,tupleKind→XD,seqIndex?→XF,noFill_tuple_add→XH,newExc→XJ,checkBuiltinCall→XM,IsPart→XR,wpAny_throw→X3,subscripted→X4,wpAny_ite_split→X6,spliced→Ye,setNext→Yg
open PySem.Around renaming under_plainId→RD
open PySem.Builtin.Builtins renaming bindParams→V1
open PySem.Builtin.List renaming listTooLong→Wm,listLengthHint→Yj,listExtendWith→Yk
open PySem.Builtin.Slice renaming slicePlaces→U6,sliceAdjust→Wd
open PySem.Builtin.SmallTypes renaming nextOf→QV,ownedTupleIsFree→Q4,ownedTupleHandOut→SX,newClass→Yi
open PySem.Builtin.Tuple renaming tupleExact→U9
open PySem.Calls renaming spliced_cons→Xg,spliced_nil→Xx
open PySem.F renaming plainAttrs_list→QH,type_list_append→Rp,slot_list_append→Rq,slot_zip_next→Tn,plain_max_loop→Ub,slot_tuple_iterator_next→UL,slot_int_rmul→Vf,args_zip_next_1→Wh,args_tuple_add_2→Wj,entry_tuple_add→Wq,entry_zip_next→Wv,slot_tuple_add→Wy,args_int_rmul_2→Xw,entry_max_loop→XS,entry_int_rmul→XX,fills_int_mul→Yb,args_tuple_iterator_next_1→Yc,entry_tuple_iterator_next→Yh
open PySem.Heap renaming get?_push_of_some→Pz,get?_push_size→PN,lt_size→Qf,get?_update_other→Q0,size_push→Q7,get?_update_self→Q8,SameBut→Sq,get?_push_ne→Uu,size_update→Vs,get?_push_cases→VB,IsTuple→Xv
open PySem.Heap.SameBut renaming update→Ro
open PySem.NameKind renaming free→R9,cell→W8
open PySem.Obj renaming mapSeq→RN,mapFields→Vt,putSet→Xe
open PySem.Paired renaming length→W7
open PySem.PassesOwn renaming never→Rt
open PySem.SeqAt.EqAt renaming int_int→Xc
open PySem.SetTable renaming below→RK,grown→Uz
open PySem.SetTable.below renaming go→Vh
open PySem.SetTable.probe renaming go→Xo
open PySem.Shared renaming heap→Wf
open PySem.Str renaming ofString→Sg
open PySem.Value renaming ref→QS,none→QZ,int→TY,type→Ug
open PySem.W renaming Frag→Qi,Frag→Qu,mg_none_of→Ru,kia_one→R5,nsIn→Ur,kitOne→U8,fnOf→Vj,keepIn→V6,codeIn→WX,methodObj→Xp,instObj→X7
open PySem.W.KasT renaming kasWp→Tz,kasWp_bind→VJ
open Sum renaming inl→Wx,inr→Xn
open True renaming intro→Uy
set_option Elab.async false
set_option linter.all false
set_option maxRecDepth 100000
namespace L2
open PySem PySem.Spec PyProof.Rows
abbrev Key:=Sum Int Rx
def xZ:Key->Value->Bool
 | .inl k,v=>Value.isInt k v
 | .inr x,v=>Value.isStrOf x v
def O6 (w:QG):Key->Int
 | .inl k=>hashInt k
 | .inr x=>hashStr w x
theorem cB:∀ {k:Key} {v:Value},xZ k v=true->(∃ i t,k=Wx i/\v=TY i t)∨(∃ x t,k=Xn x/\v=Value.str x t)
 | .inl i,v,h=>by
  obtain⟨t,e⟩:=Value.isInt_shape (k:=i) (v:=v) h
  exact .inl ⟨i,t,rfl,e⟩
 | .inr x,v,h=>by
  obtain⟨t,e⟩:=Value.isStrOf_shape (x:=x) (v:=v) h
  exact .inr ⟨x,t,rfl,e⟩
theorem zU (i:Int) (t:Tok):xZ (.inl i) (.int i t)=true:=by simp [xZ,Value.isInt]
theorem Aa (x:Rx) (t:Tok):xZ (.inr x) (.str x t)=true:=by simp [xZ,Value.isStrOf]
theorem Mq (a b:Int):decide ((Wx a:Key)=Wx b)=(a == b):=by
 by_cases e:a=b
 ·subst e; simp
 ·have h:¬ (Wx a:Key)=Wx b:=fun q=>e (Sum.inl.inj q)
  rw[decide_eq_false h]
  exact (beq_eq_false_iff_ne.mpr e).symm
theorem LR (a b:Rx):decide ((Xn a:Key)=Xn b)=decide (a=b):=by
 by_cases e:a=b
 ·subst e; simp
 ·have h:¬ (Xn a:Key)=Xn b:=fun q=>e (Sum.inr.inj q)
  rw[decide_eq_false h,decide_eq_false e]
theorem La (a:Int) (b:Rx):decide ((Wx a:Key)=Xn b)=false:=decide_eq_false (fun q=>nomatch q)
theorem M3 (a:Rx) (b:Int):decide ((Xn a:Key)=Wx b)=false:=decide_eq_false (fun q=>nomatch q)
def d7 (prog:Qx) (w:QG):PySem.KeyKind prog w Key where
 is:=xZ
 hash:=O6 w
 inj:=fun v a b ha hb=>by
  rcases cB ha with⟨i,t,rfl,rfl⟩ | ⟨x,t,rfl,rfl⟩
  ·rcases cB hb with⟨j,u,rfl,e⟩ | ⟨y,u,rfl,e⟩
   ·injection e with e1 _; rw[e1]
   ·exact nomatch e
  ·rcases cB hb with⟨j,u,rfl,e⟩ | ⟨y,u,rfl,e⟩
   ·exact nomatch e
   ·injection e with e1 _; rw[e1]
 byValue:=fun k v h=>by
  rcases cB h with⟨i,t,rfl,rfl⟩ | ⟨x,t,rfl,rfl⟩ <;> rfl
 pyHash:=fun hv h=>by
  rcases cB hv with⟨i,t,rfl,rfl⟩ | ⟨x,t,rfl,rfl⟩
  ·exact wpAny_pyHash_int h
  ·exact wpAny_pyHash_str h
 eqBool:=fun hu hv h=>by
  rcases cB hu with⟨i,t,rfl,rfl⟩ | ⟨x,t,rfl,rfl⟩
  ·rcases cB hv with⟨j,u,rfl,rfl⟩ | ⟨y,u,rfl,rfl⟩
   ·rw[Mq] at h; exact wpAny_eqBool_int h
   ·rw[La] at h; exact SeqAt.EqAt.int_str i t y u _ _ _ _ h
  ·rcases cB hv with⟨j,u,rfl,rfl⟩ | ⟨y,u,rfl,rfl⟩
   ·rw[M3] at h; exact SeqAt.EqAt.str_int x t j u _ _ _ _ h
   ·rw[LR] at h; exact wpAny_eqBool_str h
 «strs»:=fun k x t v h=>by
  rcases cB h with⟨i,u,rfl,e⟩ | ⟨y,u,rfl,e⟩
  ·exact nomatch e
  ·injection e with e1 _
   subst e1
   cases v <;> rfl
theorem vW (prog:Qx) (w:QG) (i:Int) (t:Tok):(d7 prog w).is (.inl i) (.int i t)=true:=zU i t
theorem vB (prog:Qx) (w:QG) (x:Rx) (t:Tok):(d7 prog w).is (.inr x) (.str x t)=true:=Aa x t
end L2
namespace L2
open PySem PySem.Spec PyProof.Rows
inductive V where
 | non | bl (b:Bool) | int (i:Int) | str (x:Rx) | byt (b:Array UInt8) | flt (b:UInt64) | ref (a:Addr) | ty (n:String)
 deriving DecidableEq
def RelV:V->Value->Prop
 | .non,u=>u=QZ
 | .bl b,u=>u=Value.bool b
 | .int i,u=>∃ t,u=TY i t
 | .str x,u=>∃ t,u=Value.str x t
 | .byt b,u=>∃ t,u=Value.bytes b t
 | .flt b,u=>∃ t,u=Value.float b t
 | .ref a,u=>u=QS a
 | .ty n,u=>u=Ug n
abbrev Vals:List V->List Value->Prop:=Paired RelV
theorem Vals.length {xs:List V} {us:List Value} (r:Vals xs us):xs.length=us.length:=W7 r
theorem Vals.get:∀ {xs:List V} {us:List Value} {i:Nat} {x:V},Vals xs us->xs[i]? = some x->∃ u,us[i]? = some u/\RelV x u
 | _,_,_,_,.nil,e=>by simp at e
 | _,_,0,_,.cons r _,e=>by simp at e; subst e; exact⟨_,rfl,r⟩
 | _,_,i+1,x,.cons _ t,e=>by
  obtain⟨u,h1,h2⟩:=Vals.get (i:=i) (x:=x) t (by simpa using e)
  exact⟨u,by simpa using h1,h2⟩
theorem Vals.set {x:V} {u:Value} (r:RelV x u):∀ {xs:List V} {us:List Value} (i:Nat),Vals xs us->Vals (xs.set i x) (us.set i u)
 | _,_,_,.nil=>.nil
 | _,_,0,.cons _ t=>.cons r t
 | _,_,i+1,.cons q t=>.cons q (Vals.set r i t)
theorem Vals.append:∀ {xs ys:List V} {us ws:List Value},Vals xs us->Vals ys ws->Vals (xs++ys) (us++ws)
 | _,_,_,_,.nil,s=>s
 | _,_,_,_,.cons r t,s=>.cons r (Vals.append t s)
theorem Vals.take:∀ {xs:List V} {us:List Value} (n:Nat),Vals xs us->Vals (xs.take n) (us.take n)
 | _,_,0,_=>.nil
 | _,_,_+1,.nil=>.nil
 | _,_,n+1,.cons r t=>.cons r (Vals.take n t)
theorem Vals.drop:∀ {xs:List V} {us:List Value} (n:Nat),Vals xs us->Vals (xs.drop n) (us.drop n)
 | _,_,0,r=>r
 | _,_,_+1,.nil=>.nil
 | _,_,n+1,.cons _ t=>Vals.drop n t
def Di:Option V->Option Value->Prop
 | some v,some u=>RelV v u
 | none,none=>True
 | _,_=>False
def KV {κ:Type}:List (κ × V)->List (κ × Value)->Prop:=Paired fun (p:κ × V) (q:κ × Value)=>p.1=q.1/\RelV p.2 q.2
def kV:Key->V
 | .inl i=>.int i
 | .inr x=>.str x
inductive HO where
 /-- a list -/
 | lst (xs:List V)
 /-- a tuple (never changes) -/
 | tup (xs:List V)
 /-- a dict whose keys are ints and texts; one whose keys are tuples of ints and texts (the empty one is both) -/
 | dK (kvs:List (Key × V)) | dT (kvs:List (List Key × V))
 /-- a set of ints: its members,its size -/
 | set (S:Int->Bool) (n:Nat)
 /-- an instance of the class at C,its dict at dx,its attributes -/
 | ins (C dx:Addr) (fs:List (Rx × V))
 /-- the dict of the instance at x -/
 | own (x:Addr)
 /-- the dict of an exception -/
 | xd (fs:List (Rx × V))
 /-- a bound method,f of x -/
 | met (f x:Addr)
 /-- a range object lo,lo+1,.. below hi -/
 | rng (lo hi:Int)
 /-- a thing that is known to the object (the script; a dict while a loop walks it): read,never written while it is so -/
 | frz (o:Tv) (u:HO)
 /-- a code object's table -/
 | tbl (ps:Array Value)
 /-- any other thing,by what is true of its one object (a def of one's own: SetO a S n:=HO.ext fun h=>..) -/
 | ext (φ:Rb->Prop)
abbrev Hp:=Addr->Option HO
def upd (H:Hp) (a:Addr) (o:HO):Hp:=fun b=>if b=a then some o else H b
theorem aj {H:Hp} {a:Addr} {o:HO}:upd H a o a=some o:=by unfold upd; rw[if_pos rfl]
theorem bx {H:Hp} {a b:Addr} {o:HO} (h:b≠a):upd H a o b=H b:=by unfold upd; rw[if_neg h]
theorem KD {H:Hp} {a b:Addr} {o u:HO} (h:H a=some o) (h':H b=some u) (d:o≠u):a≠b:=by
 intro e; subst e; rw[h] at h'; exact d (QJ h')
theorem dW {H:Hp} {a b:Addr} {o:HO} (h:H a=some o) (h':H b=none):a≠b:=by
 intro e; subst e; rw[h] at h'; cases h'
section
variable (P:Qx) (w:QG)
def eF (H:Hp) (h:Rb) (a:Addr):HO->Prop
 | .lst xs=>xs.length<=sizeLine/\∃ (its:List Value) (n:Nat),Vals xs its/\h.get? a=some { cls:=.type "list",data:=.seq its.toArray n }
 | .tup xs=>xs.length<=sizeLine/\∃ its:List Value,Vals xs its/\IsTup h a its.toArray
 | .dK kvs=>kvs.length<=sizeLine/\(a == Vg)=false/\∃ vs,KV kvs vs/\h.DictOf (d7 P w) a vs
 | .dT kvs=>kvs.length<=sizeLine/\(a == Vg)=false/\∃ xs:List (List Key × Addr × Value),
   Paired (fun (p:List Key × V) (q:List Key × Addr × Value)=>p.1=q.1/\H q.2.1=some (.tup (p.1.map kV))/\RelV p.2 q.2.2) kvs xs ∧
   ∃ o es ep,h.get? a=some o/\o.ExactDict/\o.data = .dict es ep/\es.toList=xs.map (entryOfKey (XD (d7 P w)))/\(xs.map (·.1)).Nodup
 | .set S n=>h.SetOf (UW P w) a S n
 | .ins C dx fs=>H dx=some (.own a)/\fs.length<=1000/\dx≠a/\h.get? a=some (X7 C dx) ∧
   ∃ mA,h.Ns1 dx mA/\(∀ f,Di (fs.lookup f) (mA f))/\PySem.Within mA (fs.map (·.1))
 | .own _=>∃ o,h.get? a=some o
 | .xd fs=>∃ mA,h.Ns1 a mA/\∀ f,Di (fs.lookup f) (mA f)
 | .rng lo hi=>∃ t u v,h.get? a=some { cls:=.type "range",data:=.fields #[.int lo t,.int hi u,.int 1 v] }
 | .frz o u=>h.get? a=some o/\eF H h a u
 | .tbl ps=>h.get? a=some { cls:=.none,data:=.fields ps }
 | .met f x=>h.get? a=some (Xp (.ref f) (.ref x))
 | .ext φ=>φ h/\(∃ o,h.get? a=some o)/\∀ h1 h2:Rb,φ h1->(∀ o,h1.get? a=some o->h2.get? a=some o)->φ h2
def HOk (H:Hp) (h:Rb):Prop:=∀ a o,H a=some o->eF P w H h a o
end
section
variable {P:Qx} {w:QG} {H H':Hp} {h h':Rb} {a:Addr} {o:HO}
theorem eF.lt (x:eF P w H h a o):a < h.objs.size:=by
 cases o with
 | lst xs=>obtain⟨_,_,_,_,e⟩:=x; exact Qf e
 | tup xs=>obtain⟨_,_,_,p⟩:=x; exact p.lt
 | dK kvs=>obtain⟨_,_,_,_,o,_,_,e,_⟩:=x; exact Qf e
 | dT kvs=>obtain⟨_,_,_,_,o,_,_,e,_⟩:=x; exact Qf e
 | set S n=>obtain⟨o,_,_,_,e,_⟩:=x; exact Qf e
 | ins C dx fs=>obtain⟨_,_,_,e,_⟩:=x; exact Qf e
 | own y=>obtain⟨_,e⟩:=x; exact Qf e
 | xd fs=>obtain⟨_,⟨_,_,_,e,_⟩,_⟩:=x; exact Qf e
 | rng lo hi=>obtain⟨_,_,_,e⟩:=x; exact Qf e
 | frz ob u=>obtain⟨e,_⟩:=x; exact Qf e
 | tbl ps=>exact Qf (show h.get? a=some _ from x)
 | met f y=>exact Qf (show h.get? a=some _ from x)
 | ext φ=>obtain⟨_,⟨_,e⟩,_⟩:=x; exact Qf e
theorem Paired.NK {α β:Type} {F G:α->β->Prop}:∀ {l₁:List α} {l₂:List β},Paired F l₁ l₂->(∀ a b,F a b->G a b)->Paired G l₁ l₂
 | _,_,.nil,_=>.nil
 | _,_,.cons r t,f=>.cons (f _ _ r) (Paired.NK t f)
theorem eF.stay (x:eF P w H h a o) (k:∀ b u,(b=a∨H b=some (.own a))->h.get? b=some u->h'.get? b=some u)
  (ho:∀ b,H b=some (.own a)->H' b=some (.own a)) (ht:∀ b xs,H b=some (.tup xs)->H' b=some (.tup xs)):eF P w H' h' a o:=by
 induction o with
 | lst xs=>obtain⟨z,its,n,r,e⟩:=x; exact⟨z,its,n,r,k _ _ (.inl rfl) e⟩
 | tup xs=>obtain⟨z,its,r,ob,e,c⟩:=x; exact⟨z,its,r,ob,k _ _ (.inl rfl) e,c⟩
 | dK kvs=>obtain⟨z,y,vs,r,ob,es,ep,e,c⟩:=x; exact⟨z,y,vs,r,ob,es,ep,k _ _ (.inl rfl) e,c⟩
 | dT kvs =>
  obtain⟨z,y,xs,r,ob,es,ep,e,c⟩:=x
  exact⟨z,y,xs,Paired.NK r fun p q z=>⟨z.1,ht _ _ z.2.1,z.2.2⟩,ob,es,ep,k _ _ (.inl rfl) e,c⟩
 | set S n=>obtain⟨ob,es,ep,t,e,c⟩:=x; exact⟨ob,es,ep,t,k _ _ (.inl rfl) e,c⟩
 | ins C dx fs =>
  obtain⟨d,z,ne,e,mA,⟨od,es,ep,e2,c⟩,r⟩:=x
  exact⟨ho _ d,z,ne,k _ _ (.inl rfl) e,mA,⟨od,es,ep,k _ _ (.inr d) e2,c⟩,r⟩
 | own y=>obtain⟨ob,e⟩:=x; exact⟨ob,k _ _ (.inl rfl) e⟩
 | xd fs=>obtain⟨mA,⟨od,es,ep,e,c⟩,r⟩:=x; exact⟨mA,⟨od,es,ep,k _ _ (.inl rfl) e,c⟩,r⟩
 | rng lo hi=>obtain⟨t,u,v,e⟩:=x; exact⟨t,u,v,k _ _ (.inl rfl) e⟩
 | frz ob u ih=>obtain⟨e,q⟩:=x; exact⟨k _ _ (.inl rfl) e,ih q⟩
 | tbl ps =>
  have e:h.get? a=some { cls:=.none,data:=.fields ps }:=x
  show h'.get? a=some { cls:=.none,data:=.fields ps }
  exact k a _ (.inl rfl) e
 | met f y =>
  have e:h.get? a=some (Xp (.ref f) (.ref y)):=x
  show h'.get? a=some (Xp (.ref f) (.ref y))
  exact k a _ (.inl rfl) e
 | ext φ=>obtain⟨p,⟨o,e⟩,st⟩:=x; exact⟨st _ _ p fun o q=>k _ _ (.inl rfl) q,⟨o,k _ _ (.inl rfl) e⟩,st⟩
theorem HOk.lt (x:HOk P w H h) (e:H a=some o):a < h.objs.size:=(x a o e).lt
theorem HOk.fresh (x:HOk P w H h) (e:h.objs.size<=a):H a=none:=by
 cases q:H a with
 | none=>rfl
 | some u=>exact absurd (Qp (x.lt q) e) (S8 _)
theorem HOk.kept (x:HOk P w H h) (k:∀ b u,h.get? b=some u->h'.get? b=some u):HOk P w H h':=fun a o e =>
 (x a o e).stay (fun b u _ q=>k b u q) (fun _ q=>q) fun _ _ q=>q
theorem HOk.laid (x:HOk P w H h) (k:∀ b u,h.get? b=some u->h'.get? b=some u) (hp:h.objs.size<=a) (new:eF P w (upd H a o) h' a o):HOk P w (upd H a o) h':=fun b u e=>by
 have hn:=x.fresh hp
 by_cases hb:b=a
 ·subst hb; rw[aj] at e; cases e; exact new
 ·rw[bx hb] at e
  exact (x b u e).stay (fun c v _ q=>k c v q) (fun c q=>by rw[bx (dW q hn)]; exact q) fun c xs q=>by rw[bx (dW q hn)]; exact q
end
def Rd (H:Hp) (a:Addr) (u:HO):Prop:=H a=some u∨∃ o,H a=some (.frz o u)
theorem Rd.ok {P:Qx} {w:QG} {H:Hp} {h:Rb} {a:Addr} {u:HO} (r:Rd H a u) (x:HOk P w H h):eF P w H h a u:=by
 rcases r with r | ⟨o,r⟩
 ·exact x a u r
 ·obtain⟨_,q⟩:=x a _ r
  exact q
def Mut:Option HO->Prop
 | some (.lst _)=>True
 | some (.dK _)=>True
 | some (.dT _)=>True
 | some (.set _ _)=>True
 | some (.ins _ _ _)=>True
 | some (.ext _)=>True
 | _=>False
section
variable {P:Qx} {w:QG} {H:Hp} {h h':Rb} {x e:Addr} {o':HO}
theorem HOk.write (ok:HOk P w H h) (mu:Mut (H x)) (he:e=x∨H e=some (.own x)) (k:∀ b u,b≠e->h.get? b=some u->h'.get? b=some u) (heo:∃ u,h'.get? e=some u)
  (new:eF P w (upd H x o') h' x o'):HOk P w (upd H x o') h':=fun b u q=>by
 have nown:∀ c y,H c=some (.own y)->c≠x:=fun c y r z=>by subst z; rw[r] at mu; exact mu
 have ntup:∀ c xs,H c=some (.tup xs)->c≠x:=fun c xs r z=>by subst z; rw[r] at mu; exact mu
 by_cases hb:b=x
 ·subst hb; rw[aj] at q; cases q; exact new
 ·rw[bx hb] at q
  by_cases hbe:b=e
  ·have q':H b=some (.own x):=by
    rcases he with z | z
    ·exact absurd (hbe.trans z) hb
    ·rw[hbe]; exact z
   rw[q] at q'; cases q'
   obtain⟨v,hv⟩:=heo
   exact⟨v,by rw[hbe]; exact hv⟩
  ·refine (ok b u q).stay (fun c v hc r=>k c v ?_ r) (fun c r=>by rw[bx (nown c b r)]; exact r) fun c xs r=>by rw[bx (ntup c xs r)]; exact r
   rcases hc with rfl | hc
   ·exact hbe
   ·rintro rfl
    rcases he with z | z
    ·exact nown c b hc z
    ·rw[hc] at z; cases z; exact hb rfl
end
structure Un (fs ex:List Addr) (H H':Hp) (h h':Rb):Prop where
 keep:∀ b o,h.get? b=some o->H b=none->b ∉ fs->b ∉ ex->h'.get? b=some o
 slot:∀ b o,h.get? b=some o->H b=none->b∈fs->b ∉ ex->∃ sl,h'.get? b=some { o with slots:=sl }
 free:∀ b o,h.get? b=some o->H b=none->b ∉ ex->H' b=none
 there:∀ b o,h.get? b=some o->b ∉ ex->∃ o',h'.get? b=some o'
 tups:∀ b xs,H b=some (.tup xs)->H' b=some (.tup xs)
 frzs:∀ b o u,H b=some (.frz o u)->H' b=some (.frz o u)
 tbls:∀ b ps,H b=some (.tbl ps)->∃ more,H' b=some (.tbl (ps++more))
section
variable {fs fs' ex ex':List Addr} {H H1 H2:Hp} {h h1 h2 h':Rb} {a x e:Addr} {o:HO}
theorem Un.any (u:Un fs ex H H1 h h1) {b:Addr} {ob:Tv} (q:h.get? b=some ob) (n:H b=none) (hx:b ∉ ex):∃ sl,h1.get? b=some { ob with slots:=sl }:=by
 by_cases hb:b∈fs
 ·exact u.slot b ob q n hb hx
 ·exact⟨ob.slots,u.keep b ob q n hb hx⟩
theorem Un.trans (a:Un fs ex H H1 h h1) (b:Un fs ex H1 H2 h1 h2):Un fs ex H H2 h h2 where
 keep:=fun c ob q n hc hx=>b.keep c ob (a.keep c ob q n hc hx) (a.free c ob q n hx) hc hx
 slot:=fun c ob q n hc hx=>by
  obtain⟨sl,e1⟩:=a.slot c ob q n hc hx
  obtain⟨sl',e2⟩:=b.slot c _ e1 (a.free c ob q n hx) hc hx
  exact⟨sl',e2⟩
 free:=fun c ob q n hx=>by
  obtain⟨o',e1⟩:=a.there c ob q hx
  exact b.free c o' e1 (a.free c ob q n hx) hx
 there:=fun c ob q hx=>by
  obtain⟨o',e1⟩:=a.there c ob q hx
  exact b.there c o' e1 hx
 tups:=fun c xs q=>b.tups c xs (a.tups c xs q)
 frzs:=fun c ob xs q=>b.frzs c ob xs (a.frzs c ob xs q)
 tbls:=fun c ps q=>by
  obtain⟨m1,e1⟩:=a.tbls c ps q
  obtain⟨m2,e2⟩:=b.tbls c _ e1
  exact⟨m1++m2,by rw[e2,Array.append_assoc]⟩
theorem Un.kept (k:∀ b u,h.get? b=some u->h'.get? b=some u):Un fs ex H H h h' :=
 ⟨fun b ob q _ _ _=>k b ob q,fun b ob q _ _ _=>⟨ob.slots,k b ob q⟩,fun _ _ _ n _=>n,fun b ob q _=>⟨ob,k b ob q⟩,fun _ _ q=>q,fun _ _ _ q=>q,fun _ ps q=>⟨#[],by rw[q]; simp⟩⟩
theorem Un.refl:Un fs ex H H h h:=Un.kept fun _ _ q=>q
theorem Un.laid (k:∀ b u,h.get? b=some u->h'.get? b=some u) (hp:h.objs.size<=a) (hn:H a=none):Un fs ex H (upd H a o) h h' where
 keep:=fun b u q _ _ _=>k b u q
 slot:=fun b u q _ _ _=>⟨u.slots,k b u q⟩
 free:=fun b u q n _=>by rw[bx (Qv (Qp (Qf q) hp))]; exact n
 there:=fun b u q _=>⟨u,k b u q⟩
 tups:=fun b xs q=>by rw[bx (dW q hn)]; exact q
 frzs:=fun b u xs q=>by rw[bx (dW q hn)]; exact q
 tbls:=fun b ps q=>⟨#[],by rw[bx (dW q hn),q]; simp⟩
theorem Un.write (mu:Mut (H x)) (he:e=x∨H e=some (.own x)) (k:∀ b u,b≠e->h.get? b=some u->h'.get? b=some u) (heo:∃ u,h'.get? e=some u):Un fs ex H (upd H x o) h h':=by
 have hx:∀ b,H b=none->b≠x:=fun b n z=>by subst z; rw[n] at mu; exact mu
 have hb:∀ b,H b=none->b≠e:=fun b n z=>by
  subst z
  rcases he with r | r
  ·exact hx b n r
  ·rw[n] at r; cases r
 have hm:∀ b u,H b=some u->¬ Mut (some u)->b≠x:=fun b u q nm z=>by subst z; rw[q] at mu; exact nm mu
 refine⟨fun b u q n _ _=>k b u (hb b n) q,fun b u q n _ _=>⟨u.slots,k b u (hb b n) q⟩,fun b u q n _=>by rw[bx (hx b n)]; exact n,fun b u q _=>?_,
  fun b xs q=>by rw[bx (hm b _ q fun z=>z)]; exact q,fun b u xs q=>by rw[bx (hm b _ q fun z=>z)]; exact q,fun b ps q=>⟨#[],by rw[bx (hm b _ q fun z=>z),q]; simp⟩⟩
 by_cases hbe:b=e
 ·subst hbe; exact heo
 ·exact⟨u,k b u hbe q⟩
end
def trk (h:Rb) (H:Hp):List Addr:=(P0 h.objs.size).filter fun a=>(H a).isSome
def Ep (h:Rb) (H:Hp):Rb:=PySem.W.hideAll h (trk h H)
theorem Aj (h:Rb) (H:Hp):(Ep h H).objs.size=h.objs.size:=PySem.W.hideAll_size _ _
theorem Fg {h:Rb} {H:Hp} {b:Addr} {o:Tv} (e:h.get? b=some o) (n:H b=none):(Ep h H).get? b=some o :=
 PySem.W.hideAll_get _ e fun hm=>by
  have q:(H b).isSome=true:=(List.mem_filter.mp hm).2
  rw[n] at q; simp at q
theorem JV {h:Rb} {H:Hp} {b:Addr} {o:Tv} (e:(Ep h H).get? b=some o):h.get? b=some o/\H b=none:=by
 have e':h.get? b=some o:=PySem.W.of_hideAll (trk h H) e
 refine⟨e',?_⟩
 cases q:H b with
 | none=>rfl
 | some x =>
  have hm:b∈trk h H:=List.mem_filter.mpr ⟨List.mem_range.mpr (Qf e'),by simp [q]⟩
  have z:(Ep h H).get? b=none:=PySem.W.hideAll_none (trk h H) hm
  rw[z] at e; cases e
def Iu (g h:Rb) (L:Addr):List (Addr × Tv):=(P0 h.objs.size).filterMap fun a=>if a=L∨(g.get? a).isSome=true then none else (h.get? a).map fun o=>(a,o)
def rest (g h:Rb) (L d:Addr):List (Addr × Tv):=(Iu g h L).filter fun p=>decide (p.1≠d)
end L2
namespace L2
open PySem PySem.Spec PyProof.Rows
structure Mod (K:Qi) (mg:Rx->Option Value) (base:Rb):Prop where
 kin:K.In base
 glob:base.Ns QD mg
 blt:∃ mb,base.Ns builtinsNs mb/\∀ x:Rx,x≠"__name__"->mb x=Q5 x
 nolimit:base.NoLimit
structure Cx where
 prog:Qx
 w:QG
 K:Qi
 mg:Rx->Option Value
 base:Rb
 A:QK
 N:List Rx
 s₀:PB
 H₀:Hp
 env:Env
 outer:List Env
 stack:List Env
 ex:List Addr
 fn:Rx->Bool
 calm:Bool
 pn:List (Addr × Tv)
 xe:Value->PB->Prop
def frs (l:List Env):List Addr:=l.filterMap (·.frame)
abbrev Cx.fs (X:Cx):List Addr:=frs X.outer
def Vis (sc:Vi) (x:Rx):Prop:=sc.names.lookup x=some .local∨sc.names.lookup x=some .cell∨sc.names.lookup x=some .free
def Loc (sc:Vi) (x:Rx):Prop:=sc.names.lookup x=some .local∨sc.names.lookup x=some .cell
def Look (env:Env) (h:Rb) (m:Rx->Option Value) (x:Rx) (u:Value):Prop :=
 (env.kindOf x=some .local/\m x=some u)∨((env.kindOf x=some .cell∨env.kindOf x=some .free)/\∃ c,env.cells.lookup x=some c/\h.IsCell c (some u))
structure Cx.Ok (X:Cx):Prop where
 mod:Mod X.K X.mg X.base
 kind:X.env.scope.kind = .function
 glob:X.env.globals=QD
 blt:X.env.builtins=builtinsNs
 above:X.s₀.heap.objs.size<=X.env.locals
 inj:∀ x y c,X.env.cells.lookup x=some c->X.env.cells.lookup y=some c->x=y
 has:∀ x,(X.env.kindOf x=some .cell∨X.env.kindOf x=some .free)->∃ c,X.env.cells.lookup x=some c
 cab:∀ x c,X.fn x=true->X.env.cells.lookup x=some c->X.s₀.heap.objs.size<=c
 hd:X.calm=true->X.A.handled=none
 frames:X.A.frames=some X.stack
 stk:X.stack=X.outer∨(X.stack=X.env::X.outer/\X.env.frame=some X.env.locals)
 exf:∀ b∈X.ex,b≠X.env.locals/\∀ x c,X.env.cells.lookup x=some c->c≠b
 bs:∀ b o,X.base.get? b=some o->X.s₀.heap.get? b=some o/\X.H₀ b=none
 bsz:X.base.objs.size<=X.s₀.heap.objs.size
 noex:∀ b o,X.base.get? b=some o->b ∉ X.ex
 exfs:∀ b∈X.ex,b ∉ X.fs
 zN:X.s₀.heap.FunFrames X.base X.outer
 frf:∀ b∈X.fs,X.H₀ b=none
structure Inv (X:Cx) (pins:List (Addr × Tv)) (σ:List (Option V)) (H:Hp) (s:PB):Prop where
 ok:X.Ok
 os:s.os=X.s₀.os
 bare:WD s.gens
 base:Un X.fs X.ex X.H₀ H X.s₀.heap s.heap
 loc:∃ m,s.heap.Ns X.env.locals m/\∀ (i:Nat) (x:Rx) (v:V),X.N[i]? = some x->σ[i]? = some (some v)->Vis X.env.scope x->∃ u,RelV v u/\Look X.env s.heap m x u
 cell:∀ x c,X.env.cells.lookup x=some c->∃ v,s.heap.IsCell c v
 free:H X.env.locals=none
 freeC:∀ x c,X.env.cells.lookup x=some c->H c=none
 pin:∀ p∈X.pn++pins,s.heap.get? p.1=some p.2/\H p.1=none/\p.1≠X.env.locals/\p.1 ∉ X.fs/\∀ v,p.2.data≠.cell v
 hok:HOk X.prog X.w H s.heap
 len:σ.length=X.N.length
section
variable {X:Cx} {pins:List (Addr × Tv)} {σ:List (Option V)} {H H':Hp} {s:PB} {h':Rb}
theorem Cx.Ok.Pb (ok:X.Ok) {b:Addr} {o:Tv} (e:X.base.get? b=some o):b ∉ X.fs:=fun hb=>by
 have:=(ok.zN.mem hb).1
 rw[e] at this; cases this
theorem Inv.bs (I:Inv X pins σ H s):∀ b o,X.base.get? b=some o->s.heap.get? b=some o/\H b=none:=fun b o e =>
 ⟨I.base.keep b o (I.ok.bs b o e).1 (I.ok.bs b o e).2 (I.ok.Pb e) (I.ok.noex b o e),I.base.free b o (I.ok.bs b o e).1 (I.ok.bs b o e).2 (I.ok.noex b o e)⟩
theorem Inv.bk (I:Inv X pins σ H s):∀ b o,X.base.get? b=some o->s.heap.get? b=some o:=fun b o e=>(I.bs b o e).1
theorem Inv.mod (I:Inv X pins σ H s):Mod X.K X.mg X.base:=I.ok.mod
theorem Inv.kIn (I:Inv X pins σ H s):X.K.In s.heap:=I.ok.mod.kin.keeps I.bk
theorem Inv.lt (I:Inv X pins σ H s):X.env.locals < s.heap.objs.size:=let ⟨_,hn,_⟩:=I.loc; hn.lt
theorem Inv.sz (I:Inv X pins σ H s):X.s₀.heap.objs.size<=s.heap.objs.size:=Q6 I.ok.above (U3 I.lt)
theorem Inv.OD (I:Inv X pins σ H s) {a:Addr} (h:s.heap.objs.size<=a):a ∉ X.fs:=fun hb=>by
 obtain⟨_,o,ho,_⟩:=I.ok.zN.mem hb
 exact absurd (Qp (Qf ho) (Q6 I.sz h)) (S8 _)
theorem Inv.cne (I:Inv X pins σ H s):∀ x c,X.env.cells.lookup x=some c->c≠X.env.locals:=fun x c e z=>by
 obtain⟨v,o,ho,hd⟩:=I.cell x c e
 obtain⟨m,⟨o',es,ep,ho',hd',_⟩,_⟩:=I.loc
 rw[z,ho'] at ho; cases ho; rw[hd'] at hd; cases hd
theorem Inv.zN (I:Inv X pins σ H s):s.heap.FunFrames X.base X.outer:=by
 have all:∀ (l:List Env),(∀ b∈frs l,b∈X.fs)->X.s₀.heap.FunFrames X.base l->s.heap.FunFrames X.base l:=by
  intro l
  induction l with
  | nil=>intro _ _; trivial
  | cons env r ih =>
   intro hs hl
   obtain⟨hk,⟨L,o,hf,hn,ho,hd⟩,hr⟩:=hl
   have hL:L∈X.fs:=hs L (by unfold frs; rw[VR,hf]; exact Qa)
   obtain⟨sl,e⟩:=I.base.slot L o ho (I.ok.frf L hL) hL fun z=>I.ok.exfs L z hL
   exact⟨hk,⟨L,_,hf,hn,e,hd⟩,ih (fun b hb=>hs b (by unfold frs; rw[VR,hf]; exact Qg _ hb)) hr⟩
 exact all X.outer (fun _ hb=>hb) I.ok.zN
theorem Inv.stack (I:Inv X pins σ H s):s.heap.FunFrames X.base X.stack:=by
 rcases I.ok.stk with e | ⟨e,hf⟩
 ·rw[e]; exact I.zN
 ·rw[e]
  obtain⟨m,hn,_⟩:=I.loc
  refine .cons (by rw[I.ok.kind]; decide) hf hn ?_ I.zN
  exact Heap.get?_none_of_le (Q6 I.ok.bsz I.ok.above)
theorem Inv.Dk (I:Inv X pins σ H s):∀ b∈frs X.stack,b∈X.env.locals::X.fs:=fun b hb=>by
 rcases I.ok.stk with e | ⟨e,hf⟩
 ·rw[e] at hb; exact Qg _ hb
 ·rw[e] at hb
  unfold frs at hb
  rw[VR,hf] at hb
  exact hb
theorem Inv.BW (I:Inv X pins σ H s):∀ b∈frs X.stack,H b=none:=fun b hb=>by
 rcases List.mem_cons.mp (I.Dk b hb) with e | hb
 ·rw[e]; exact I.free
 ·obtain⟨_,o,ho,_⟩:=I.ok.zN.mem hb
  exact I.base.free b o ho (I.ok.frf b hb) fun z=>I.ok.exfs b z hb
theorem Inv.step {g':Array GenState} {t':Nat} {d':Drawn} {ch:List Addr} (I:Inv X pins σ H s)
  (hch:∀ b∈ch,(b∈X.ex∨X.s₀.heap.objs.size<=b)/\b≠X.env.locals/\(∀ x c,X.env.cells.lookup x=some c->c≠b)/\∀ p∈X.pn++pins,p.1≠b)
  (keep:∀ b o,b≠X.env.locals->b ∉ X.fs->b ∉ ch->s.heap.get? b=some o->H b=none->h'.get? b=some o)
  (slot:∀ b o,b≠X.env.locals->b∈X.fs->b ∉ ch->s.heap.get? b=some o->H b=none->∃ sl,h'.get? b=some { o with slots:=sl }) (free:∀ b o,b ∉ ch->s.heap.get? b=some o->H b=none->H' b=none)
  (there:∀ b o,b ∉ ch->s.heap.get? b=some o->∃ o',h'.get? b=some o')
  (tups:∀ b xs,H b=some (.tup xs)->H' b=some (.tup xs)) (frzs:∀ b o u,H b=some (.frz o u)->H' b=some (.frz o u)) (tbls:∀ b ps,H b=some (.tbl ps)->∃ more,H' b=some (.tbl (ps++more)))
  (ns:∀ m,s.heap.Ns X.env.locals m->h'.Ns X.env.locals m) (hok:HOk X.prog X.w H' h') (hg:WD g') :
  Inv X pins σ H' { s with heap:=h',gens:=g',drawn:=d',toks:=t' }:=by
 have neL:∀ b o,X.s₀.heap.get? b=some o->b≠X.env.locals:=fun b o e=>Qv (Qp (Qf e) I.ok.above)
 have neC:∀ b o,X.s₀.heap.get? b=some o->b ∉ X.ex->b ∉ ch:=fun b o e hx hb=>by
  rcases (hch b hb).1 with z | z
  ·exact hx z
  ·exact absurd (Qp (Qf e) z) (S8 _)
 have cellK:∀ x c,X.env.cells.lookup x=some c->∀ v,s.heap.IsCell c v->h'.IsCell c v:=fun x c e v ⟨o,ho,hd⟩=>by
  have nch:c ∉ ch:=fun z=>(hch c z).2.2.1 x c e rfl
  by_cases hc:c∈X.fs
  ·obtain⟨sl,q⟩:=slot c o (I.cne x c e) hc nch ho (I.freeC x c e)
   exact⟨_,q,hd⟩
  ·exact⟨o,keep c o (I.cne x c e) hc nch ho (I.freeC x c e),hd⟩
 refine⟨I.ok,I.os,hg,⟨fun b o e n hb hx=>?_,fun b o e n hb hx=>?_,fun b o e n hx=>?_,fun b o e hx=>?_,fun b xs e=>tups b xs (I.base.tups b xs e),fun b o xs e=>frzs b o xs (I.base.frzs b o xs e),fun b ps e=>?_⟩,?_,fun x c e=>?_,?_,fun x c e=>?_,fun p hp=>?_,hok,I.len⟩
 ·exact keep b o (neL b o e) hb (neC b o e hx) (I.base.keep b o e n hb hx) (I.base.free b o e n hx)
 ·obtain⟨sl,e1⟩:=I.base.slot b o e n hb hx
  obtain⟨sl',e2⟩:=slot b _ (neL b o e) hb (neC b o e hx) e1 (I.base.free b o e n hx)
  exact⟨sl',e2⟩
 ·obtain⟨o',e1⟩:=I.base.there b o e hx
  exact free b o' (neC b o e hx) e1 (I.base.free b o e n hx)
 ·obtain⟨o',e1⟩:=I.base.there b o e hx
  exact there b o' (neC b o e hx) e1
 ·obtain⟨m1,e1⟩:=I.base.tbls b ps e
  obtain⟨m2,e2⟩:=tbls b _ e1
  exact⟨m1++m2,by rw[e2,Array.append_assoc]⟩
 ·obtain⟨m,hn,hl⟩:=I.loc
  refine⟨m,ns m hn,fun i x v e1 e2 e3=>?_⟩
  obtain⟨u,r,l⟩:=hl i x v e1 e2 e3
  refine⟨u,r,?_⟩
  rcases l with l | ⟨k,c,e,z⟩
  ·exact .inl l
  ·exact .inr ⟨k,c,e,cellK x c e _ z⟩
 ·obtain⟨v,z⟩:=I.cell x c e
  exact⟨v,cellK x c e v z⟩
 ·obtain⟨m,⟨o,_,_,ho,_⟩,_⟩:=I.loc
  exact free _ o (fun z=>(hch _ z).2.1 rfl) ho I.free
 ·obtain⟨v,o,ho,hd⟩:=I.cell x c e
  exact free c o (fun z=>(hch c z).2.2.1 x c e rfl) ho (I.freeC x c e)
 ·obtain⟨e,n,ne,nf,d⟩:=I.pin p hp
  have nch:p.1 ∉ ch:=fun z=>(hch p.1 z).2.2.2 p hp rfl
  exact⟨keep p.1 p.2 ne nf nch e n,free p.1 p.2 nch e n,ne,nf,d⟩
theorem Inv.un {t':Nat} (I:Inv X pins σ H s) (u:Un X.fs [] H H' s.heap h') (hok:HOk X.prog X.w H' h'):Inv X pins σ H' { s with heap:=h',toks:=t' }:=by
 obtain⟨m,⟨o,es,ep,ho,r⟩,_⟩:=id I.loc
 obtain⟨sl,hL⟩:=u.any ho I.free (by simp)
 exact I.step (g':=s.gens) (d':=s.drawn) (ch:=[]) (fun _ z=>nomatch z) (fun b o _ hb _ e n=>u.keep b o e n hb (by simp)) (fun b o _ hb _ e n=>u.slot b o e n hb (by simp)) (fun b o _ e n=>u.free b o e n (by simp)) (fun b o _ e=>u.there b o e (by simp)) u.tups u.frzs u.tbls (fun m' hm=>by
  obtain⟨o',es',ep',ho',r'⟩:=hm
  rw[ho] at ho'; cases ho'
  exact⟨_,es',ep',hL,r'⟩) hok I.bare
theorem Inv.call {g':Array GenState} {t':Nat} {d':Drawn} {ch:List Addr} (I:Inv X pins σ H s) (u:Un (frs X.stack) ch H H' s.heap h') (hok:HOk X.prog X.w H' h') (hg:WD g')
  (hch:∀ b∈ch,(b∈X.ex∨X.s₀.heap.objs.size<=b)/\b≠X.env.locals/\(∀ x c,X.env.cells.lookup x=some c->c≠b)/\∀ p∈X.pn++pins,p.1≠b) :
  Inv X pins σ H' { s with heap:=h',gens:=g',drawn:=d',toks:=t' }:=by
 obtain⟨m,⟨o,es,ep,ho,r⟩,_⟩:=id I.loc
 obtain⟨sl,hL⟩:=u.any ho I.free fun z=>(hch _ z).2.1 rfl
 exact I.step (ch:=ch) hch (fun b o hL hb hc e n=>u.keep b o e n (fun z=>(List.mem_cons.mp (I.Dk b z)).elim hL hb) hc) (fun b o _ _ hc e n=>u.any e n hc) (fun b o hc e n=>u.free b o e n hc) (fun b o hc e=>u.there b o e hc) u.tups u.frzs u.tbls (fun m' hm=>by
  obtain⟨o',es',ep',ho',r'⟩:=hm
  rw[ho] at ho'; cases ho'
  exact⟨_,es',ep',hL,r'⟩) hok hg
theorem Inv.turned {t':Nat} {it:Addr} (I:Inv X pins σ H s) (k:∀ b o,b≠it->s.heap.get? b=some o->h'.get? b=some o) (hn:H it=none) (hL:it≠X.env.locals)
  (h1:it∈X.ex∨X.s₀.heap.objs.size<=it) (h2:∀ x c,X.env.cells.lookup x=some c->c≠it) (h3:∀ p∈X.pn++pins,p.1≠it):Inv X pins σ H { s with heap:=h',toks:=t' }:=by
 have nit:∀ b u,H b=some u->b≠it:=fun b u e z=>by rw[z,hn] at e; cases e
 refine I.step (g':=s.gens) (d':=s.drawn) (ch:=[it]) (fun b hb=>?_) (fun b o _ _ hc e _=>k b o (fun z=>hc (by simp [z])) e) (fun b o _ _ hc e _=>⟨o.slots,k b o (fun z=>hc (by simp [z])) e⟩) (fun _ _ _ _ n=>n)
  (fun b o hc e=>⟨o,k b o (fun z=>hc (by simp [z])) e⟩) (fun _ _ e=>e) (fun _ _ _ e=>e) (fun b ps e=>⟨#[],by rw[e]; simp⟩) (fun m hm=>?_) (fun b u e=>?_) I.bare
 ·have e:b=it:=by simpa using hb
  subst e
  exact⟨h1,hL,h2,h3⟩
 ·obtain⟨o,es,ep,ho,r⟩:=hm
  exact⟨o,es,ep,k _ o (TF hL) ho,r⟩
 ·refine (I.hok b u e).stay (fun c v hc q=>k c v ?_ q) (fun _ q=>q) fun _ _ q=>q
  rcases hc with z | z
  ·rw[z]; exact nit b u e
  ·exact nit c _ z
theorem Inv.tok (I:Inv X pins σ H s) (t:Nat):Inv X pins σ H { s with toks:=t }:=I.un (h':=s.heap) (t':=t) Un.refl I.hok
theorem Inv.kept {t':Nat} (I:Inv X pins σ H s) (k:∀ b u,s.heap.get? b=some u->h'.get? b=some u):Inv X pins σ H { s with heap:=h',toks:=t' }:=I.un (Un.kept k) (I.hok.kept k)
theorem Inv.laid {a:Addr} {o:HO} {t':Nat} (I:Inv X pins σ H s) (k:∀ b u,s.heap.get? b=some u->h'.get? b=some u) (hp:s.heap.objs.size<=a) (new:eF X.prog X.w (upd H a o) h' a o) :
  Inv X pins σ (upd H a o) { s with heap:=h',toks:=t' }:=I.un (Un.laid k hp (I.hok.fresh hp)) (I.hok.laid k hp new)
theorem Inv.write {x e:Addr} {o:HO} {t':Nat} (I:Inv X pins σ H s) (mu:Mut (H x)) (he:e=x∨H e=some (.own x)) (k:∀ b u,b≠e->s.heap.get? b=some u->h'.get? b=some u) (heo:∃ u,h'.get? e=some u)
  (new:eF X.prog X.w (upd H x o) h' x o):Inv X pins σ (upd H x o) { s with heap:=h',toks:=t' }:=I.un (Un.write mu he k heo) (I.hok.write mu he k heo new)
theorem Inv.Ad {pins':List (Addr × Tv)} (I:Inv X pins σ H s) (h:∀ p∈pins',s.heap.get? p.1=some p.2/\H p.1=none/\p.1≠X.env.locals/\p.1 ∉ X.fs/\∀ v,p.2.data≠.cell v):Inv X pins' σ H s :=
 ⟨I.ok,I.os,I.bare,I.base,I.loc,I.cell,I.free,I.freeC,fun p hp=>(List.mem_append.mp hp).elim (fun z=>I.pin p (W2 _ z)) (h p),I.hok,I.len⟩
theorem xJ {N:List Rx} (hN:N.Nodup) {i j:Nat} {x:Rx} (a:N[i]? = some x) (b:N[j]? = some x):i=j:=by
 obtain⟨h1,e1⟩:=List.getElem?_eq_some_iff.mp a
 obtain⟨h2,e2⟩:=List.getElem?_eq_some_iff.mp b
 exact (Wt hN).mp (e1.trans e2.symm)
theorem sG {M:Model} {A:QK} {E:Value->PB->Prop} {i:Nat} {x:Rx} {v:V} {u:Value} {Q:Unit->PB->Prop} (I:Inv X pins σ H s) (hN:X.N.Nodup) (hi:X.N[i]? = some x) (hx:Loc X.env.scope x) (r:RelV v u)
  (h:∀ s',Inv X pins (σ.set i (some v)) H s'->(∃ a,Sq a s.heap s'.heap/\(a=X.env.locals∨X.env.cells.lookup x=some a))->Q () s') (hf:X.fn x=true∨X.env.scope.names.lookup x=some .local:=by first | exact .inl rfl | exact .inr rfl | assumption):Qd M A (storeName X.env x u) Q E s:=by
 obtain⟨m,hn,hl⟩:=id I.loc
 have hcls:(X.env.scope.kind == .class || (X.env.scope.kind == .module && X.env.locals != X.env.globals))=false:=by rw[I.ok.kind]; rfl
 have hiσ:i < σ.length:=by rw[I.len]; exact (List.getElem?_eq_some_iff.mp hi).1
 have cne:=I.cne
 have tracked:∀ {a:Addr} {h':Rb},(∃ o,s.heap.get? a=some o/\H a=none)->Sq a s.heap h'->HOk X.prog X.w H h':=fun {a h'} ha hs b ob e=>by
  obtain⟨_,_,hfree⟩:=ha
  refine (I.hok b ob e).stay (fun c w' hc q=>(hs.2 c ?_).trans q) (fun _ q=>q) fun _ _ q=>q
  rintro rfl
  rcases hc with rfl | hc
  ·rw[hfree] at e; cases e
  ·rw[hfree] at hc; cases hc
 rcases hx with hk | hk
 ·refine wpAny_storeName_local hk hn (fun h' hn' hs=>?_) hcls
  obtain⟨oL,_,_,hoL,_⟩:=id hn
  refine h _ ⟨I.ok,I.os,I.bare,⟨fun b o e n hb hx=>?_,fun b o e n hb hx=>?_,I.base.free,fun b o e hx=>?_,I.base.tups,I.base.frzs,I.base.tbls⟩,⟨_,hn',fun j y v' e1 e2 e3=>?_⟩,fun y c e=>?_,I.free,I.freeC,fun p hp=>?_,tracked ⟨oL,hoL,I.free⟩ hs,by simpa using I.len⟩ ⟨_,hs,.inl rfl⟩
  ·exact (hs.2 b (Qv (Qp (Qf e) I.ok.above))).trans (I.base.keep b o e n hb hx)
  ·obtain⟨sl,e1⟩:=I.base.slot b o e n hb hx
   exact⟨sl,(hs.2 b (Qv (Qp (Qf e) I.ok.above))).trans e1⟩
  ·obtain⟨o',e1⟩:=I.base.there b o e hx
   exact⟨o',(hs.2 b (Qv (Qp (Qf e) I.ok.above))).trans e1⟩
  ·by_cases hj:j=i
   ·subst hj
    rw[hi] at e1; cases e1
    rw[List.getElem?_set_self hiσ] at e2
    cases e2
    exact⟨u,r,.inl ⟨hk,by simp⟩⟩
   ·rw[List.getElem?_set_ne (TF hj)] at e2
    obtain⟨u',r',q⟩:=hl j y v' e1 e2 e3
    refine⟨u',r',?_⟩
    rcases q with⟨k,e⟩ | ⟨k,c,e,z⟩
    ·refine .inl ⟨k,?_⟩
     have:y≠x:=fun e=>hj (xJ hN e1 (e▸hi))
     simp [this,e]
    ·exact .inr ⟨k,c,e,z.sameBut hs (cne y c e)⟩
  ·obtain⟨w',z⟩:=I.cell y c e
   exact⟨w',z.sameBut hs (cne y c e)⟩
  ·obtain⟨e,n,ne,nf,d⟩:=I.pin p hp
   exact⟨(hs.2 p.1 ne).trans e,n,ne,nf,d⟩
 ·have hfn:X.fn x=true:=by
   rcases hf with z | z
   ·exact z
   ·rw[z] at hk; cases hk
  obtain⟨c,hc⟩:=I.ok.has x (.inl hk)
  obtain⟨w',z⟩:=I.cell x c hc
  refine wpAny_storeName_cell I.ok.kind hk hc z (fun h' hc' hs=>?_)
  obtain⟨oc,hoc,hocd⟩:=id z
  refine h { s with heap:=h' } ⟨I.ok,I.os,I.bare,⟨fun b o e n hb hx=>?_,fun b o e n hb hx=>?_,I.base.free,fun b o e hx=>?_,I.base.tups,I.base.frzs,I.base.tbls⟩,⟨m,hn.sameBut hs (TF (cne x c hc)),fun j y v' e1 e2 e3=>?_⟩,fun y c' e=>?_,I.free,I.freeC,fun p hp=>?_,tracked ⟨oc,hoc,I.freeC x c hc⟩ hs,by simpa using I.len⟩ ⟨c,hs,.inr hc⟩
  ·exact (hs.2 b (Qv (Qp (Qf e) (I.ok.cab x c hfn hc)))).trans (I.base.keep b o e n hb hx)
  ·obtain⟨sl,e1⟩:=I.base.slot b o e n hb hx
   exact⟨sl,(hs.2 b (Qv (Qp (Qf e) (I.ok.cab x c hfn hc)))).trans e1⟩
  ·obtain⟨o',e1⟩:=I.base.there b o e hx
   exact⟨o',(hs.2 b (Qv (Qp (Qf e) (I.ok.cab x c hfn hc)))).trans e1⟩
  ·by_cases hj:j=i
   ·subst hj
    rw[hi] at e1; cases e1
    rw[List.getElem?_set_self hiσ] at e2
    cases e2
    exact⟨u,r,.inr ⟨.inl hk,c,hc,hc'⟩⟩
   ·rw[List.getElem?_set_ne (TF hj)] at e2
    obtain⟨u',r',q⟩:=hl j y v' e1 e2 e3
    refine⟨u',r',?_⟩
    rcases q with q | ⟨k,c',e,z'⟩
    ·exact .inl q
    ·refine .inr ⟨k,c',e,z'.sameBut hs ?_⟩
     rintro rfl
     exact hj (xJ hN e1 (I.ok.inj _ _ _ e hc▸hi))
  ·by_cases hcc:c'=c
   ·subst hcc; exact⟨_,hc'⟩
   ·obtain⟨w2,z2⟩:=I.cell y c' e
    exact⟨w2,z2.sameBut hs hcc⟩
  ·obtain⟨e,n,ne,nf,d⟩:=I.pin p hp
   refine⟨(hs.2 p.1 ?_).trans e,n,ne,nf,d⟩
   intro q
   rw[q,hoc] at e
   have q':oc=p.2:=QJ e
   exact d w' (by rw[← q']; exact hocd)
theorem wD {M:Model} {A:QK} {E:Value->PB->Prop} {i:Nat} {x:Rx} {v:V} {u:Value} {Q:Unit->PB->Prop} (I:Inv X pins σ H s) (hN:X.N.Nodup) (hi:X.N[i]? = some x) (hx:Loc X.env.scope x) (r:RelV v u)
  (h:∀ s',Inv X pins (σ.set i (some v)) H s'->Q () s') (hf:X.fn x=true∨X.env.scope.names.lookup x=some .local:=by first | exact .inl rfl | exact .inr rfl | assumption):Qd M A (storeName X.env x u) Q E s :=
 sG I hN hi hx r (fun s' I' _=>h s' I') hf
theorem Inv.call' {s':PB} {ch:List Addr} (I:Inv X pins σ H s) (ho:s'.os=s.os) (u:Un (frs X.stack) ch H H' s.heap s'.heap) (hok:HOk X.prog X.w H' s'.heap) (hg:WD s'.gens)
  (hch:∀ b∈ch,(b∈X.ex∨X.s₀.heap.objs.size<=b)/\b≠X.env.locals/\(∀ x c,X.env.cells.lookup x=some c->c≠b)/\∀ p∈X.pn++pins,p.1≠b):Inv X pins σ H' s':=by
 obtain⟨h',g',d',t',o'⟩:=s'
 have e:o'=s.os:=ho
 subst e
 exact I.call (g':=g') (t':=t') (d':=d') u hok hg hch
end
abbrev XK:=Value->Option Addr->Hp->Prop
abbrev St:=List (Option V)
abbrev VK:=V->Hp->Prop
abbrev TE:=St->Hp->VK->Prop
abbrev TT:=St->Hp->(Bool->Hp->Prop)->Prop
abbrev TA:=St->Hp->(List V->Hp->Prop)->Prop
structure Ends where
 nx:St->Hp->Prop
 rt:VK
 bk:St->Hp->Prop:=fun _ _=>False
 ct:St->Hp->Prop:=fun _ _=>False
abbrev TS:=Ends->St->Hp->Prop
inductive EP (X:Cx) (pins:List (Addr × Tv)) (σ:St) (Q:VK) (u:Value) (s':PB):Prop where
 | mk (v:V) (H':Hp) (z0:Inv X pins σ H' s') (z1:RelV v u) (z2:Q v H'):EP X pins σ Q u s'
def TP (X:Cx) (pins:List (Addr × Tv)) (σ:St) (Q:Bool->Hp->Prop) (b:Bool) (s':PB):Prop:=∃ H',Inv X pins σ H' s'/\Q b H'
inductive AP (X:Cx) (pins:List (Addr × Tv)) (σ:St) (Q:List V->Hp->Prop) (us:List Value) (s':PB):Prop where
 | mk (vs:List V) (H':Hp) (z0:Inv X pins σ H' s') (z1:Vals vs us) (z2:Q vs H'):AP X pins σ Q us s'
def SP (X:Cx) (pins:List (Addr × Tv)) (D:Ends) (f:Flow) (s':PB):Prop :=
 match f with
 | .next=>∃ σ' H',Inv X pins σ' H' s'/\D.nx σ' H'
 | .brk=>∃ σ' H',Inv X pins σ' H' s'/\D.bk σ' H'
 | .cont=>∃ σ' H',Inv X pins σ' H' s'/\D.ct σ' H'
 | .ret u=>∃ v σ' H',Inv X pins σ' H' s'/\RelV v u/\D.rt v H'
def PE (X:Cx) (e:Expr) (t:TE):Prop :=
 ∀ (pins:List (Addr × Tv)) (s:PB) (σ:St) (H:Hp) (Q:VK),Inv X pins σ H s->t σ H Q->Qd (Qt X.prog X.w) X.A (Tc e X.env) (EP X pins σ Q) X.xe s
def PT (X:Cx) (e:Expr) (t:TT):Prop :=
 ∀ (pins:List (Addr × Tv)) (s:PB) (σ:St) (H:Hp) (Q:Bool->Hp->Prop),Inv X pins σ H s->t σ H Q->Qd (Qt X.prog X.w) X.A (isTrue e X.env (Tc e X.env)) (TP X pins σ Q) X.xe s
def PW (X:Cx) (e:Expr) (t:TT):Prop :=
 ∀ (whole:Sem Value) (pins:List (Addr × Tv)) (s:PB) (σ:St) (H:Hp) (Q:Bool->Hp->Prop),Inv X pins σ H s->t σ H Q->Qd (Qt X.prog X.w) X.A (isTrue e X.env whole) (TP X pins σ Q) X.xe s
theorem PW.pt {X:Cx} {e:Expr} {t:TT} (h:PW X e t):PT X e t:=h _
def PA (X:Cx) (es:List Expr) (t:TA):Prop :=
 ∀ (pos:Vo) (pins:List (Addr × Tv)) (s:PB) (σ:St) (H:Hp) (Q:List V->Hp->Prop),Inv X pins σ H s->t σ H Q->Qd (Qt X.prog X.w) X.A (Ye (Uq pos (Qz es X.env))) (AP X pins σ Q) X.xe s
def PS (X:Cx) (st:Stmt) (t:TS):Prop :=
 ∀ (pins:List (Addr × Tv)) (s:PB) (σ:St) (H:Hp) (D:Ends),Inv X pins σ H s->t D σ H->Qd (Qt X.prog X.w) X.A (exec st X.env) (SP X pins D) X.xe s
def PSs (X:Cx) (st:List Stmt) (t:TS):Prop :=
 ∀ (pins:List (Addr × Tv)) (s:PB) (σ:St) (H:Hp) (D:Ends),Inv X pins σ H s->t D σ H->Qd (Qt X.prog X.w) X.A (execs st X.env) (SP X pins D) X.xe s
theorem thn {α:Type} {t:Sem α} {Q Q':α->PB->Prop} {M:Model} {A:QK} {E:Value->PB->Prop} {s:PB} (h:Qd M A t Q E s) (hQ:∀ a s,Q a s->Q' a s):Qd M A t Q' E s:=SJ h hQ fun _ _ x=>x
end L2
namespace L2
open PySem PySem.Spec PyProof.Rows
section
variable {X:Cx}
inductive ExB (x:V) (P:Bool->Prop):Prop where
 | mk (c:Bool) (z0:x = .bl c) (z1:P c):ExB x P
inductive Kz (i:Nat) (σ:St) (H:Hp) (Q:VK):Prop where
 | mk (v:V) (z0:σ[i]? = some (some v)) (z1:Q v H):Kz i σ H Q
def Nv (i:Nat):TE:=fun σ H Q=>Kz i σ H Q
def tC (v:V):TE:=fun _ H Q=>Q v H
theorem Mj {i:Nat} {x:Rx} {pos:Vo} (hN:X.N[i]? = some x) (hv:Vis X.env.scope x) (hd:(x == ("__debug__" : Rx))=false:=by decide) (hcd:(x == ("__classdict__" : Rx))=false:=by decide):PE X (.Name x pos) (Nv i):=by
 intro pins s σ H Q I h
 obtain⟨v,e,h⟩:=h
 obtain⟨m,hn,hl⟩:=I.loc
 obtain⟨u,r,l⟩:=hl i x v hN e hv
 have fin:EP X pins σ Q u s:=⟨v,H,I,r,h⟩
 rcases l with⟨hk,hm⟩ | ⟨hk,c,hc,hcell⟩
 ·exact wpAny_Name (wpAny_loadName_local I.ok.kind hk hn hm fin) hd
 ·rcases hk with hk | hk
  ·exact wpAny_Name (wpAny_loadName_cell I.ok.kind hk hc hcell fin) hd
  ·exact wpAny_Name (wpAny_loadName_free I.ok.kind hk hc hcell fin hcd) hd
theorem aB {i j pos}:PE X (.Constant (.int i) j pos) (tC (.int i)):=fun _ _ _ H _ I h=>wpAny_Constant_int ⟨.int i,H,I.tok _,⟨_,rfl⟩,h⟩
theorem jA {b j pos}:PE X (.Constant (.bool b) j pos) (tC (.bl b)):=fun _ _ _ H _ I h=>Constant_bool ⟨.bl b,H,I,rfl,h⟩
theorem KZ {j pos}:PE X (.Constant .none j pos) (tC .non):=fun _ _ _ H _ I h=>Constant_none ⟨.non,H,I,rfl,h⟩
theorem cH {x j pos}:PE X (.Constant (.str x) j pos) (tC (.str x)):=fun _ _ _ H _ I h=>Calls.Constant_str ⟨.str x,H,I.tok _,⟨_,rfl⟩,h⟩
def Gl (X:Cx) (x:Rx):Prop:=X.env.kindOf x=some .globalImplicit
theorem Ji {E:Value->PB->Prop} {pins:List (Addr × Tv)} {s:PB} {σ:St} {H:Hp} {x:Rx} {u:Value} {pos:Vo} {Q:Value->PB->Prop} (I:Inv X pins σ H s) (hg:Gl X x) (hm:X.mg x=some u) (h:Q u s)
  (hd:(x == ("__debug__" : Rx))=false:=by decide):Qd (Qt X.prog X.w) X.A (Tc (.Name x pos) X.env) Q E s :=
 Calls.Name_function_global I.ok.kind hg (Calls.loadGlobal_global (by rw[I.ok.glob]; exact I.mod.glob.keeps I.bk) hm h) hd
theorem fU {E:Value->PB->Prop} {pins:List (Addr × Tv)} {s:PB} {σ:St} {H:Hp} {x:Rx} {u:Value} {pos:Vo} {Q:Value->PB->Prop} (I:Inv X pins σ H s) (hg:Gl X x) (hm:X.mg x=none) (hv:Q5 x=some u) (h:Q u s)
  (hn:x≠"__name__":=by decide) (hd:(x == ("__debug__" : Rx))=false:=by decide):Qd (Qt X.prog X.w) X.A (Tc (.Name x pos) X.env) Q E s:=by
 obtain⟨mb,h1,h2⟩:=I.mod.blt
 exact Calls.Name_function_global I.ok.kind hg (Calls.loadGlobal_builtin (by rw[I.ok.glob]; exact I.mod.glob.keeps I.bk) hm (by rw[I.ok.blt]; exact h1.keeps I.bk) ((h2 x hn).trans hv) h) hd
theorem JS {x:Rx} {v:V} {u:Value} {pos:Vo} (hg:Gl X x) (hm:X.mg x=none) (hv:Q5 x=some u) (r:RelV v u) (hn:x≠"__name__":=by decide) (hd:(x == ("__debug__" : Rx))=false:=by decide):PE X (.Name x pos) (tC v) :=
 fun _ _ _ H _ I h=>fU I hg hm hv ⟨v,H,I,r,h⟩ hn hd
variable {a b:Expr} {ta tb:TE} {pos:Vo}
def PC (X:Cx) (op:CmpOp) (a b:Expr) (t:TE):Prop :=
 ∀ (pins:List (Addr × Tv)) (s:PB) (σ:St) (H:Hp) (Q:VK),Inv X pins σ H s->t σ H Q →
  Qd (Qt X.prog X.w) X.A (Tc a X.env) (fun v s₁=>Qd (Qt X.prog X.w) X.A (Tc b X.env) (fun u s₂=>Qd (Qt X.prog X.w) X.A (Td op v u) (EP X pins σ Q) X.xe s₂) X.xe s₁) X.xe s
theorem wA (b:Expr) {op:CmpOp} (h:op≠.In) (h2:op≠.NotIn):Up op b=false:=by
 have e1:(op == CmpOp.In)=false:=by cases op <;> first | rfl | exact absurd rfl h
 have e2:(op == CmpOp.NotIn)=false:=by cases op <;> first | rfl | exact absurd rfl h2
 cases b <;> simp [Up,e1,e2]
def Ow (ta:TE):TE:=fun σ H Q=>ta σ H fun x H1=>Q (.bl (decide (x = .non))) H1
theorem RelV.DK {x:V} {v:Value} (r:RelV x v):(v == QZ)=decide (x = .non):=by
 cases x with
 | non=>cases r; rfl
 | bl _=>cases r; rfl
 | int _=>obtain⟨t,rfl⟩:=r; rfl
 | str _=>obtain⟨t,rfl⟩:=r; rfl
 | byt _=>obtain⟨t,rfl⟩:=r; rfl
 | flt _=>obtain⟨t,rfl⟩:=r; rfl
 | ref _=>cases r; rfl
 | ty _=>cases r; rfl
theorem G8 {j pos'} (ha:PE X a ta):PC X .Is a (.Constant .none j pos') (Ow ta):=by
 intro pins s σ H Q I h
 refine thn (ha pins s σ H _ I h) fun v s1 ⟨x,H1,I1,r1,q1⟩=>?_
 exact Constant_none (is_none_gen ⟨.bl _,H1,I1,by rw[r1.DK]; rfl,q1⟩)
def tB (t:TE):TT:=fun σ H Q=>t σ H fun x H1=>ExB x fun c=>Q c H1
theorem KJ {op:CmpOp} {t:TE} (h:PC X op a b t) (h1:Up op b=false:=by first | exact wA _ (by decide) (by decide) | rfl):PE X (.Compare a [op] [b] pos) t:=fun pins s σ H Q I hw=>wpAny_Compare1 (h pins s σ H Q I hw) h1
theorem BV {op:CmpOp} {t:TE} (h:PC X op a b t) (h1:Up op b=false:=by first | exact wA _ (by decide) (by decide) | rfl):PT X (.Compare a [op] [b] pos) (tB t):=by
 intro pins s σ H Q I hw
 refine wpAny_isTrue_Compare1 (thn (h pins s σ H _ I hw) fun v s1 h1=>thn h1 fun u s2 h2=>thn h2 fun c s3 ⟨x,H1,I1,r1,q1⟩=>?_) h1
 obtain⟨d,rfl,q⟩:=q1
 cases r1
 exact Tp ⟨H1,I1,q⟩
theorem iH {e:Expr} {t:TE} (h:PE X e t) (he:∀ whole,isTrue e X.env whole=(do let v ← whole; standAt e.pos; holding [v] (truthy v)):=by intro _; rfl):PT X e (tB t):=by
 intro pins s σ H Q I hw
 refine isTrue_plain (thn (h pins s σ H _ I hw) fun v s1 ⟨x,H1,I1,r1,q1⟩=>?_) (he _)
 obtain⟨d,rfl,q⟩:=q1
 cases r1
 exact Tp ⟨H1,I1,q⟩
variable {tA tB':TT} {rest:List Expr}
def Ov (t u:TT):TT:=fun σ H Q=>t σ H fun c H1=>if c=true then u σ H1 Q else Q false H1
def tOr (t u:TT):TT:=fun σ H Q=>t σ H fun c H1=>if c=true then Q true H1 else u σ H1 Q
def O3 (t:TT):TT:=fun σ H Q=>t σ H fun c H1=>Q (!c) H1
theorem nU (ha:PT X a tA):PW X (.BoolOp .And [a] pos) tA:=by
 intro wh pins s σ H Q I h
 refine isTrue_and (thn (ha pins s σ H Q I h) fun c s1 e=>?_)
 cases c with
 | true=>exact isTrue_and_nil e
 | false=>exact e
theorem K3 (ha:PT X a tA):PW X (.BoolOp .Or [a] pos) tA:=by
 intro wh pins s σ H Q I h
 refine isTrue_or (thn (ha pins s σ H Q I h) fun c s1 e=>?_)
 cases c with
 | false=>exact isTrue_or_nil e
 | true=>exact e
theorem rY (ha:PT X a tA) (hb:PW X (.BoolOp .And (b::rest) pos) tB'):PW X (.BoolOp .And (a::b::rest) pos) (Ov tA tB'):=by
 intro wh pins s σ H Q I h
 refine isTrue_and (thn (ha pins s σ H _ I h) fun c s1 ⟨H1,I1,q1⟩=>?_)
 cases c with
 | true=>exact hb wh pins s1 σ H1 Q I1 q1
 | false=>exact⟨H1,I1,q1⟩
theorem NP (ha:PT X a tA) (hb:PW X (.BoolOp .Or (b::rest) pos) tB'):PW X (.BoolOp .Or (a::b::rest) pos) (tOr tA tB'):=by
 intro wh pins s σ H Q I h
 refine isTrue_or (thn (ha pins s σ H _ I h) fun c s1 ⟨H1,I1,q1⟩=>?_)
 cases c with
 | true=>exact⟨H1,I1,q1⟩
 | false=>exact hb wh pins s1 σ H1 Q I1 q1
theorem o5 (ha:PT X a tA):PT X (.UnaryOp .Not a pos) (O3 tA):=by
 intro pins s σ H Q I h
 exact isTrue_not (ha pins s σ H (fun c H1=>Q (!c) H1) I h)
def Nk (ta tb:TE):TE:=fun σ H Q=>ta σ H fun x H1=>ExB x fun c=>if c=true then tb σ H1 Q else Q (.bl false) H1
theorem CJ {op} {t:TE} (h:PE X a t):PE X (.BoolOp op [a] pos) t:=fun pins s σ H Q I hw=>BoolOp_one (h pins s σ H Q I hw)
theorem xF (ha:PE X a ta) (hb:PE X (.BoolOp .And (b::rest) pos) tb):PE X (.BoolOp .And (a::b::rest) pos) (Nk ta tb):=by
 intro pins s σ H Q I h
 refine BoolOp_and (thn (ha pins s σ H _ I h) fun v s1 ⟨x,H1,I1,r1,q1⟩=>?_)
 obtain⟨c,rfl,q1⟩:=q1
 cases r1
 refine Tp ?_
 cases c with
 | true=>exact hb pins s1 σ H1 Q I1 q1
 | false=>exact⟨.bl false,H1,I1,rfl,q1⟩
def tIf (t:TT) (ta tb:TE):TE:=fun σ H Q=>t σ H fun c H1=>if c=true then ta σ H1 Q else tb σ H1 Q
theorem xH {c:Expr} (hc:PT X c tA) (ha:PE X a ta) (hb:PE X b tb):PE X (.IfExp c a b pos) (tIf tA ta tb):=by
 intro pins s σ H Q I h
 refine wpAny_IfExp (thn (hc pins s σ H _ I h) fun d s1 ⟨H1,I1,q1⟩=>?_)
 cases d with
 | true=>exact ha pins s1 σ H1 Q I1 q1
 | false=>exact hb pins s1 σ H1 Q I1 q1
end
end L2
namespace L2
open PySem PySem.Spec PyProof.Rows
def SqL (K:Qi) (H:Hp) (a:Addr) (xs:List V):Prop :=
 Rd H a (.lst xs) ∨
  ∃ (o:Tv) (its:Array Value) (n:Nat),K.lookup a=some o/\o.cls = .type "list"/\o.dict=none/\o.data = .seq its n/\its.size<=sizeLine/\Vals xs its.toList
def SqT (K:Qi) (H:Hp) (a:Addr) (xs:List V):Prop :=
 Rd H a (.tup xs) ∨
  ∃ (o:Tv) (its:Array Value) (n:Nat),K.lookup a=some o/\o.cls = .type "tuple"/\o.data = .seq its n/\its.size<=sizeLine/\Vals xs its.toList
def O2:Value->Option V
 | .none=>some .non
 | .bool b=>some (.bl b)
 | .int i _=>some (.int i)
 | .str x _=>some (.str x)
 | .bytes b _=>some (.byt b)
 | .float b _=>some (.flt b)
 | .ref a=>some (.ref a)
 | .type n=>some (.ty n)
 | _=>none
theorem RelV.abs {x:V} {u:Value} (r:RelV x u):O2 u=some x:=by
 cases x with
 | non=>cases r; rfl
 | bl _=>cases r; rfl
 | int _=>obtain⟨t,rfl⟩:=r; rfl
 | str _=>obtain⟨t,rfl⟩:=r; rfl
 | byt _=>obtain⟨t,rfl⟩:=r; rfl
 | flt _=>obtain⟨t,rfl⟩:=r; rfl
 | ref _=>cases r; rfl
 | ty _=>cases r; rfl
theorem RelV.inj {x y:V} {u:Value} (r:RelV x u) (q:RelV y u):x=y:=QJ (r.abs.symm.trans q.abs)
theorem Vals.inj:∀ {xs ys:List V} {us:List Value},Vals xs us->Vals ys us->xs=ys
 | _,_,_,.nil,.nil=>rfl
 | _,_,_,.cons r t,.cons r' t'=>by rw[r.inj r',Vals.inj t t']
section
variable {X:Cx} {pins:List (Addr × Tv)} {σ:St} {H:Hp} {s:PB} {a:Addr} {xs ys:List V}
theorem SqL.of {K:Qi} (h:H a=some (.lst xs)):SqL K H a xs:=.inl (.inl h)
theorem SqT.of {K:Qi} (h:H a=some (.tup xs)):SqT K H a xs:=.inl (.inl h)
theorem Inv.list (I:Inv X pins σ H s) (h:SqL X.K H a xs):∃ its:List Value,Vals xs its/\PlainL s.heap a its.toArray/\xs.length<=sizeLine:=by
 rcases h with h | ⟨o,its,n,hk,hc,hd,hs,hz,r⟩
 ·obtain⟨z,its,n,r,e⟩:=h.ok I.hok
  exact⟨its,r,⟨_,n,e,rfl,rfl,rfl⟩,z⟩
 ·refine⟨its.toList,r,⟨o,n,I.kIn a o hk,hc,hd,by simpa using hs⟩,?_⟩
  have e:=r.length
  simp only[Qw] at e
  lia
theorem Inv.tuple (I:Inv X pins σ H s) (h:SqT X.K H a xs):∃ its:List Value,Vals xs its/\IsTup s.heap a its.toArray/\xs.length<=sizeLine:=by
 rcases h with h | ⟨o,its,n,hk,hc,hs,hz,r⟩
 ·obtain⟨z,its,r,p⟩:=h.ok I.hok
  exact⟨its,r,p,z⟩
 ·refine⟨its.toList,r,⟨o,I.kIn a o hk,hc,n,by simpa using hs⟩,?_⟩
  have e:=r.length
  simp only[Qw] at e
  lia
theorem Inv.mz (I:Inv X pins σ H s) (h:SqL X.K H a xs) (h':SqL X.K H a ys):xs=ys:=by
 obtain⟨its,r,⟨o,n,e,_,_,d⟩,_⟩:=I.list h
 obtain⟨its',r',⟨o',n',e',_,_,d'⟩,_⟩:=I.list h'
 rw[e] at e'; cases e'
 rw[d] at d'
 injection d' with d1 _
 have:its=its':=by simpa using congrArg Array.toList d1
 subst this
 exact r.inj r'
theorem Inv.gC (I:Inv X pins σ H s) (h:SqT X.K H a xs) (h':SqT X.K H a ys):xs=ys:=by
 obtain⟨its,r,⟨o,e,_,n,d⟩,_⟩:=I.tuple h
 obtain⟨its',r',⟨o',e',_,n',d'⟩,_⟩:=I.tuple h'
 rw[e] at e'; cases e'
 rw[d] at d'
 injection d' with d1 _
 have:its=its':=by simpa using congrArg Array.toList d1
 subst this
 exact r.inj r'
end
abbrev Cx.wish (X:Cx) (E:Value->PB->Prop):Cx:={ X with xe:=E }
abbrev Cx.nox (X:Cx):Cx:=X.wish fun _ _=>False
theorem Cx.Ok.wish {X:Cx} (ok:X.Ok) (E:Value->PB->Prop):(X.wish E).Ok :=
 ⟨ok.mod,ok.kind,ok.glob,ok.blt,ok.above,ok.inj,ok.has,ok.cab,ok.hd,ok.frames,ok.stk,ok.exf,ok.bs,ok.bsz,ok.noex,ok.exfs,ok.zN,ok.frf⟩
theorem Cx.Ok.lC {X:Cx} {E:Value->PB->Prop} (ok:(X.wish E).Ok):X.Ok :=
 ⟨ok.mod,ok.kind,ok.glob,ok.blt,ok.above,ok.inj,ok.has,ok.cab,ok.hd,ok.frames,ok.stk,ok.exf,ok.bs,ok.bsz,ok.noex,ok.exfs,ok.zN,ok.frf⟩
section
variable {X:Cx} {pins:List (Addr × Tv)} {σ:St} {H:Hp} {s:PB} {E:Value->PB->Prop}
theorem Inv.wish (I:Inv X pins σ H s) (E:Value->PB->Prop):Inv (X.wish E) pins σ H s:=⟨I.ok.wish E,I.os,I.bare,I.base,I.loc,I.cell,I.free,I.freeC,I.pin,I.hok,I.len⟩
theorem Inv.lC (I:Inv (X.wish E) pins σ H s):Inv X pins σ H s:=⟨I.ok.lC,I.os,I.bare,I.base,I.loc,I.cell,I.free,I.freeC,I.pin,I.hok,I.len⟩
theorem SP.lC {D:Ends} {f:Flow} {s':PB} (h:SP (X.wish E) pins D f s'):SP X pins D f s':=by
 cases f with
 | next=>obtain⟨σ',H',I,q⟩:=h; exact⟨σ',H',I.lC,q⟩
 | brk=>obtain⟨σ',H',I,q⟩:=h; exact⟨σ',H',I.lC,q⟩
 | cont=>obtain⟨σ',H',I,q⟩:=h; exact⟨σ',H',I.lC,q⟩
 | ret u=>obtain⟨v,σ',H',I,r,q⟩:=h; exact⟨v,σ',H',I.lC,r,q⟩
theorem PSs.nox {st:List Stmt} {t:TS} (h:PSs X.nox st t):PSs X st t:=fun pins s σ H D I hw =>
 SJ (h pins s σ H D (I.wish _) hw) (fun _ _ q=>q.lC) fun _ _ z=>UJ z
end
section
variable {X:Cx} {st:Stmt} {rest:List Stmt} {t u:TS} {e:Expr} {te:TE} {pos:Vo}
def M5:TS:=fun D σ H=>D.nx σ H
def Dy (t u:TS):TS:=fun D σ H=>t { D with nx:=u D } σ H
theorem aX:PSs X [] M5:=fun _ _ σ H _ I h=>WK ⟨σ,H,I,h⟩
theorem aA (h1:PS X st t) (h2:PSs X rest u):PSs X (st::rest) (Dy t u):=by
 intro pins s σ H D I h
 refine wpAny_execs_cons (thn (h1 pins s σ H { D with nx:=u D } I h) fun f s1 q=>?_)
 cases f with
 | next =>
  obtain⟨σ',H',I',q⟩:=q
  exact h2 pins s1 σ' H' D I' q
 | ret v=>exact q
 | brk=>exact q
 | cont=>exact q
theorem aC (h1:PS X st t):PSs X [st] t:=by
 intro pins s σ H D I h
 refine wpAny_execs_cons (thn (h1 pins s σ H D I h) fun f s1 q=>?_)
 cases f with
 | next=>exact WK q
 | ret v=>exact q
 | brk=>exact q
 | cont=>exact q
theorem Inv.quiet {pins:List (Addr × Tv)} {σ:St} {H:Hp} {s:PB} (I:Inv X pins σ H s):interactive X.env=false:=by simp [interactive,I.ok.kind]
def Oa (te:TE):TS:=fun D σ H=>te σ H fun _ H1=>D.nx σ H1
theorem gf (he:PE X e te) (hs:swapsWith e none pos.line X.env=pure false:=by rfl):PS X (.Expr e pos) (Oa te):=by
 intro pins s σ H D I h
 exact wpAny_Expr_any (thn (he pins s σ H _ I h) fun v s1 ⟨x,H1,I1,r1,q1⟩=>⟨σ,H1,I1,q1⟩) I.quiet hs
def Ox (te:TE):TS:=fun D σ H=>te σ H D.rt
theorem aK (he:PE X e te):PS X (.Return (some e) pos) (Ox te):=by
 intro pins s σ H D I h
 exact wpAny_Return_some (thn (he pins s σ H _ I h) fun v s1 ⟨x,H1,I1,r1,q1⟩=>⟨x,σ,H1,I1,r1,q1⟩)
def FN (c:TT) (t u:TS):TS:=fun D σ H=>c σ H fun b H1=>if b=true then t D σ H1 else u D σ H1
theorem bZ {c:Expr} {a b:List Stmt} {tc:TT} (hc:PT X c tc) (ha:PSs X a t) (hb:PSs X b u):PS X (.If c a b pos) (FN tc t u):=by
 intro pins s σ H D I h
 refine wpAny_If (thn (hc pins s σ H _ I h) fun d s1 ⟨H1,I1,q1⟩=>?_)
 cases d with
 | true=>exact ha pins s1 σ H1 D I1 q1
 | false=>exact hb pins s1 σ H1 D I1 q1
end
abbrev TG:=V->St->Hp->(St->Hp->Prop)->Prop
abbrev TGs:=List V->St->Hp->(St->Hp->Prop)->Prop
def PG (X:Cx) (target:Expr) (t:TG):Prop :=
 ∀ (pins:List (Addr × Tv)) (s:PB) (σ:St) (H:Hp) (v:V) (u:Value) (Q:St->Hp->Prop),Inv X pins σ H s->RelV v u->t v σ H Q →
  Qd (Qt X.prog X.w) X.A (assign target X.env u) (fun _ s'=>∃ σ' H',Inv X pins σ' H' s'/\Q σ' H') X.xe s
def PGs (X:Cx) (ts:List Expr) (t:TGs):Prop :=
 ∀ (pins:List (Addr × Tv)) (s:PB) (σ:St) (H:Hp) (vs:List V) (us:List Value) (Q:St->Hp->Prop),Inv X pins σ H s->Vals vs us->t vs σ H Q →
  Qd (Qt X.prog X.w) X.A (assignInOrder ((Vq ts X.env).map (·.2)) us) (fun _ s'=>∃ σ' H',Inv X pins σ' H' s'/\Q σ' H') X.xe s
section
variable {X:Cx} {pos:Vo}
def Gd (i:Nat):TG:=fun v σ H Q=>Q (σ.set i (some v)) H
theorem aG {i:Nat} {x:Rx} (hN:X.N.Nodup) (hi:X.N[i]? = some x) (hx:Loc X.env.scope x) (hf:X.fn x=true∨X.env.scope.names.lookup x=some .local:=by first | exact .inl rfl | exact .inr rfl | assumption):PG X (.Name x pos) (Gd i):=by
 intro pins s σ H v u Q I r h
 exact wpAny_assign_Name (wD I hN hi hx r (fun s' I'=>⟨_,H,I',h⟩) hf)
def Pg:TGs:=fun vs σ H Q=>vs=[]/\Q σ H
inductive Gu (t:TG) (u:TGs) (vs:List V) (σ:St) (H:Hp) (Q:St->Hp->Prop):Prop where
 | mk (v:V) (r:List V) (z0:vs=v::r) (z1:t v σ H fun σ' H'=>u r σ' H' Q):Gu t u vs σ H Q
def Nq (t:TG) (u:TGs):TGs:=fun vs σ H Q=>Gu t u vs σ H Q
theorem d8:PGs X [] Pg:=by
 intro pins s σ H vs us Q I r h
 obtain⟨e,h⟩:=h
 subst e
 cases r
 exact assignInOrder_nil ⟨σ,H,I,h⟩
theorem aZ {e:Expr} {es:List Expr} {t:TG} {u:TGs} (h1:PG X e t) (h2:PGs X es u)
  (hs:(Vq (e::es) X.env).map (·.2)=assign e X.env::(Vq es X.env).map (·.2):=by rfl):PGs X (e::es) (Nq t u):=by
 intro pins s σ H vs us Q I r h
 obtain⟨v,vr,e1,h⟩:=h
 subst e1
 cases r with
 | cons r rr =>
  rw[hs]
  refine assignInOrder_cons (thn (h1 pins s σ H _ _ _ I r h) fun _ s1 ⟨σ1,H1,I1,q1⟩=>?_)
  exact h2 pins s1 σ1 H1 _ _ Q I1 rr q1
inductive Mp (K:Qi) (n:Nat) (t:TGs) (v:V) (σ:St) (H:Hp) (Q:St->Hp->Prop):Prop where
 | mk (a:Addr) (xs:List V) (z0:v = .ref a) (z1:SqT K H a xs) (z2:xs.length=n) (z3:t xs σ H Q):Mp K n t v σ H Q
def Ou (K:Qi) (n:Nat) (t:TGs):TG:=fun v σ H Q=>Mp K n t v σ H Q
theorem MT {es:List Expr} {k:Nat} {t:TGs} {n:Nat} (hc:X.calm=true) (h:PGs X es t)
  (hn:(Vq es X.env).length=n:=by rfl) (hst:(Vq es X.env).findIdx? (·.1)=none:=by rfl):PG X (.Tuple es k pos) (Ou X.K n t):=by
 intro pins s σ H v u Q I r hw
 obtain⟨a,xs,e1,hq,hl,hw⟩:=hw
 subst e1
 cases r
 obtain⟨its,rv,ht,hz⟩:=I.tuple hq
 refine assign_Tuple_tuple (I.ok.hd hc) ht (by simp [hn,← hl,rv.length]) hst fun h' hx=>?_
 have I1:Inv X pins σ H { s with heap:=h' }:=I.kept (t':=s.toks) fun b o e=>hx b o (Qv (Qf e)) e
 exact h pins _ σ H xs _ Q I1 (by simpa using rv) hw
def Om (te:TE) (g:TG):TS:=fun D σ H=>te σ H fun x H1=>g x σ H1 D.nx
theorem Hs {tg e:Expr} {te:TE} {g:TG} (he:PE X e te) (hg:PG X tg g) (hs:swapsWithSole [tg] e pos.line X.env=pure false:=by rfl) (hw:swappedStores [tg] e X.env=pure none:=by rfl)
  (h1:(Vq [tg] X.env).map (·.2)=[assign tg X.env]:=by rfl):PS X (.Assign [tg] e pos) (Om te g):=by
 intro pins s σ H D I h
 refine wpAny_Assign_stores (thn (he pins s σ H _ I h) fun v s1 ⟨x,H1,I1,r1,q1⟩=>?_) hs hw
 rw[h1]
 exact thn (hg pins s1 σ H1 x v _ I1 r1 q1) fun _ s2 q=>q
theorem aU {i:Nat} {x:Rx} {e:Expr} {te:TE} {pos':Vo} (hN:X.N.Nodup) (hi:X.N[i]? = some x) (hx:Loc X.env.scope x) (he:PE X e te) (hs:swapsWith e (some (.Name x pos')) pos.line X.env=pure false:=by rfl) (hf:X.fn x=true∨X.env.scope.names.lookup x=some .local:=by first | exact .inl rfl | exact .inr rfl | assumption) :
  PS X (.Assign [.Name x pos'] e pos) (Om te (Gd i)):=by
 intro pins s σ H D I h
 refine wpAny_Assign_Name (thn (he pins s σ H _ I h) fun v s1 ⟨y,H1,I1,r1,q1⟩=>?_) hs
 exact wD I1 hN hi hx r1 (fun s2 I2=>⟨_,H1,I2,q1⟩) hf
end
section
variable {X:Cx} {pos:Vo}
def GK (c:TT) (tb:TS):TS:=fun D σ H=>∃ W:Nat->St->Hp->Prop,(∃ m,W m σ H)/\∀ m σ H,W m σ H →
 c σ H fun b H1=>if b=true then ∃ N:St->Hp->Prop,(∀ σ' H',N σ' H'->∃ m',m' < m/\W m' σ' H')/\tb { D with nx:=N,ct:=N,bk:=D.nx } σ H1 else D.nx σ H1
theorem qy {c:Expr} {body:List Stmt} {tc:TT} {tb:TS} (hp:PassesOwn (Qt X.prog X.w) X.A X.env X.xe) (hc:PT X c tc) (hb:PSs X body tb):PS X (.While c body [] pos) (GK tc tb):=by
 intro pins s σ H D I h
 obtain⟨W,⟨m0,w0⟩,turn⟩:=h
 refine wpAny_While (codeAny_whileLoop (fun n s'=>∃ σ' H',Inv X pins σ' H' s'/\W n σ' H') ?_ m0 ⟨σ,H,I,w0⟩)
 rintro n s1 ⟨σ1,H1,I1,w1⟩
 refine Uk hp (thn (hc pins s1 σ1 H1 _ I1 (turn n σ1 H1 w1)) fun b s2 ⟨H2,I2,q2⟩=>?_)
 cases b with
 | true =>
  obtain⟨N,hN,q2⟩:=q2
  rw[if_pos rfl]
  refine Uk hp (thn (hb pins s2 σ1 H2 _ I2 q2) fun f s3 q3=>?_)
  cases f with
  | next =>
   obtain⟨σ3,H3,I3,n3⟩:=q3
   obtain⟨m',hm,w3⟩:=hN σ3 H3 n3
   exact⟨m',hm,σ3,H3,I3,w3⟩
  | cont =>
   obtain⟨σ3,H3,I3,n3⟩:=q3
   obtain⟨m',hm,w3⟩:=hN σ3 H3 n3
   exact⟨m',hm,σ3,H3,I3,w3⟩
  | brk=>exact q3
  | ret v=>exact q3
 | false =>
  rw[if_neg Qc]
  exact WK ⟨σ1,H2,I2,q2⟩
end
structure It where
 go:Nat->Hp->Prop
 yld:Nat->Hp->V->Hp->Prop
 stop:Nat->Hp->Prop
def uO (X:Cx) (pins:List (Addr × Tv)) (H:Hp) (b:Addr):Prop :=
 H b=none/\b≠X.env.locals/\b ∉ X.fs/\(b∈X.ex∨X.s₀.heap.objs.size<=b)/\(∀ x c,X.env.cells.lookup x=some c->c≠b)/\∀ p∈X.pn++pins,p.1≠b
theorem Inv.Ea {X:Cx} {pins:List (Addr × Tv)} {σ:St} {H H':Hp} {s:PB} {b:Addr} (I:Inv X pins σ H s) (hb:s.heap.objs.size<=b) (hn:H' b=none):uO X pins H' b:=by
 refine⟨hn,R6 (Qp I.lt hb),I.OD hb,.inr (Q6 I.sz hb),fun x c e z=>?_,fun p hp z=>?_⟩
 ·obtain⟨v,q⟩:=I.cell x c e
  exact absurd (Qp q.lt (by rw[z]; exact hb)) (S8 _)
 ·exact absurd (Qp (Qf (I.pin p hp).1) (by rw[z]; exact hb)) (S8 _)
structure Turn (P:Qx) (w:QG) (K:Qi) (tg:Expr) (J:It) (fp:List Addr) (it:Addr) (tn:Nat->Rb->Prop):Prop where
 mem:it∈fp
 obj:∀ i h,tn i h->∀ b∈fp,∃ o,h.get? b=some o/\∀ v,o.data≠.cell v
 keep:∀ i h h',tn i h->(∀ b∈fp,∀ o,h.get? b=some o->h'.get? b=some o)->tn i h'
 item:∀ (X:Cx),X.prog=P->X.w=w->X.K=K->X.calm=true->∀ (i:Nat) (pins:List (Addr × Tv)) (s:PB) (σ:St) (H:Hp) (E:Value->PB->Prop),Inv X pins σ H s->(∀ b∈fp,uO X pins H b)->tn i s.heap->J.go i H →
  Qd (Qt P w) X.A (Th (.ref it)) (fun r s1=>∃ u,r=some u ∧
   Qd (Qt P w) X.A (WL tg (.ref it) u) (fun _ s2=>∃ x H',Inv X pins σ H' s2/\RelV x u/\J.yld i H x H'/\tn (i+1) s2.heap/\∀ b∈fp,H' b=none) E s1) E s
 done:∀ (X:Cx),X.prog=P->X.w=w->X.K=K->X.calm=true->∀ (i:Nat) (pins:List (Addr × Tv)) (s:PB) (σ:St) (H:Hp) (E:Value->PB->Prop),Inv X pins σ H s->(∀ b∈fp,uO X pins H b)->tn i s.heap->J.stop i H →
  Qd (Qt P w) X.A (Th (.ref it)) (fun r s1=>r=none/\Inv X pins σ H s1) E s
 self:∀ (A:QK) (i:Nat) (s:PB) (Q:Value->PB->Prop) (E:Value->PB->Prop),tn i s.heap->Q (.ref it) s->Qd (Qt P w) A (pyIter (.ref it)) Q E s
abbrev TI:=St->Hp->(It->Hp->Prop)->Prop
def PIE (X:Cx) (pins:List (Addr × Tv)) (σ:St) (tg:Expr) (R:It->Hp->Prop) (itv:Value) (s2:PB):Prop :=
 ∃ (it:Addr) (fp:List Addr) (tn:Nat->Rb->Prop) (J:It) (H':Hp),itv = .ref it/\Inv X pins σ H' s2/\Turn X.prog X.w X.K tg J fp it tn/\tn 0 s2.heap/\(∀ b∈fp,uO X pins H' b)/\R J H'
def PI (X:Cx) (tg iter:Expr) (wi:TI):Prop :=
 ∀ (pins:List (Addr × Tv)) (s:PB) (σ:St) (H:Hp) (R:It->Hp->Prop),Inv X pins σ H s->wi σ H R →
  Qd (Qt X.prog X.w) X.A (Tc iter X.env) (fun v s1=>Qd (Qt X.prog X.w) X.A (pyIter v) (PIE X pins σ tg R) X.xe s1) X.xe s
theorem Gh {M : Model} {A : QK} {E : Value → PB → Prop} {s : PB} {tg : Expr} {it : Addr} {u : Value} {o : Tv} {n : String} {vs : Array Value} {Q : Unit → PB → Prop} (ho : s.heap.get? it = some o) (hc : o.cls = .type n) (hd : o.data = .fields vs)
    (hn : ["enumerate", "zip", "dict_itemiterator", "dict_reverseitemiterator", "odict_iterator", "itertools.zip_longest", "itertools.pairwise"].contains n = false) (hQ : Q () s) : Qd M A (WL tg (.ref it) u) Q E s := by
  unfold WL
  cases tg <;> first
    | exact PK hQ
    | (cases u <;> first
        | exact PK hQ
        | (refine Px (wpAny_load ho ?_)
           rw [hc, hd]
           show Qd M A (if (["enumerate", "zip", "dict_itemiterator", "dict_reverseitemiterator", "odict_iterator", "itertools.zip_longest", "itertools.pairwise"].contains n && vs[0]? == some (RJ _)) = true then _ else _) Q E s
           rw [if_neg (by intro h; rw [hn, Bool.false_and] at h; cases h)]
           exact PK hQ))
def Itl (K:Qi) (a:Addr):It :=
 ⟨fun i H=>∃ xs x,SqL K H a xs/\xs[i]? = some x,fun i H x H'=>H'=H/\∀ xs,SqL K H a xs->xs[i]? = some x,fun i H=>∃ xs,SqL K H a xs/\xs.length<=i⟩
def Itt (K:Qi) (a:Addr):It :=
 ⟨fun i H=>∃ xs x,SqT K H a xs/\xs[i]? = some x,fun i H x H'=>H'=H/\∀ xs,SqT K H a xs->xs[i]? = some x,fun i H=>∃ xs,SqT K H a xs/\xs.length<=i⟩
def Itr (lo:Int) (n:Nat):It:=⟨fun i _=>i < n,fun i H x H'=>H'=H/\x = .int (lo+i),fun i _=>n<=i⟩
theorem BR {P:Qx} {w:QG} {K:Qi} {tg:Expr} (a it:Addr):Turn P w K tg (Itl K a) [it] it (fun i h=>h.IsListIter it a i) where
 mem:=by simp
 obj:=fun i h st b hb=>by
  have e:b=it:=by simpa using hb
  subst e
  obtain⟨o,e,c,d⟩:=st
  exact⟨o,e,fun v z=>by rw[d] at z; cases z⟩
 keep:=fun i h h' st k=>st.at fun o e=>k it (by simp) o e
 item:=by
  intro X hP hw hK hc i pins s σ H E I hf st hg
  subst hP hw hK
  obtain⟨xs,x,hq,hx⟩:=hg
  obtain⟨its,rv,p,hz⟩:=I.list hq
  obtain⟨u,hu,ru⟩:=rv.get hx
  obtain⟨f0,f1,f2,f3,f4,f5⟩:=hf it (by simp)
  refine wpAny_pyNext_list_item st p.isList (x:=u) (by simpa using hu) fun h' st' sb=>?_
  have I1:Inv X pins σ H { s with heap:=h' }:=I.turned (t':=s.toks) (fun b o hb e=>(sb.2 b hb).trans e) f0 f1 f3 f4 f5
  obtain⟨o,e,c,d⟩:=id st'
  exact⟨u,rfl,Gh (s:={ s with heap:=h' }) e c d (by decide) ⟨x,H,I1,ru,⟨rfl,fun ys hy=>by rw[I.mz hy hq]; exact hx⟩,st',fun b hb=>(hf b hb).1⟩⟩
 done:=by
  intro X hP hw hK hc i pins s σ H E I hf st hg
  subst hP hw hK
  obtain⟨xs,hq,hx⟩:=hg
  obtain⟨its,rv,p,hz⟩:=I.list hq
  obtain⟨f0,f1,f2,f3,f4,f5⟩:=hf it (by simp)
  have hl:=rv.length
  exact wpAny_pyNext_list_end (I.ok.hd hc) st p.isList (by simp; lia) fun h' eb=>⟨rfl,I.turned (t':=s.toks) (fun b o hb e=>eb b o hb e) f0 f1 f3 f4 f5⟩
 self:=fun _ _ _ _ _ st h=>wpAny_pyIter_listiter st h
theorem ye {P:Qx} {w:QG} {K:Qi} {tg:Expr} (a it:Addr):Turn P w K tg (Itt K a) [it] it (fun i h=>h.IsTupleIter it a i) where
 mem:=by simp
 obj:=fun i h st b hb=>by
  have e:b=it:=by simpa using hb
  subst e
  obtain⟨o,e,c,d⟩:=st
  exact⟨o,e,fun v z=>by rw[d] at z; cases z⟩
 keep:=fun i h h' st k=>st.at fun o e=>k it (by simp) o e
 item:=by
  intro X hP hw hK hc i pins s σ H E I hf st hg
  subst hP hw hK
  obtain⟨xs,x,hq,hx⟩:=hg
  obtain⟨its,rv,p,hz⟩:=I.tuple hq
  obtain⟨u,hu,ru⟩:=rv.get hx
  obtain⟨f0,f1,f2,f3,f4,f5⟩:=hf it (by simp)
  refine wpAny_pyNext_tuple_item st (show s.heap.IsTuple a its.toArray from p) (x:=u) (by simpa using hu) fun h' st' sb=>?_
  have I1:Inv X pins σ H { s with heap:=h' }:=I.turned (t':=s.toks) (fun b o hb e=>(sb.2 b hb).trans e) f0 f1 f3 f4 f5
  obtain⟨o,e,c,d⟩:=id st'
  exact⟨u,rfl,Gh (s:={ s with heap:=h' }) e c d (by decide) ⟨x,H,I1,ru,⟨rfl,fun ys hy=>by rw[I.gC hy hq]; exact hx⟩,st',fun b hb=>(hf b hb).1⟩⟩
 done:=by
  intro X hP hw hK hc i pins s σ H E I hf st hg
  subst hP hw hK
  obtain⟨xs,hq,hx⟩:=hg
  obtain⟨its,rv,p,hz⟩:=I.tuple hq
  obtain⟨f0,f1,f2,f3,f4,f5⟩:=hf it (by simp)
  have hl:=rv.length
  exact wpAny_pyNext_tuple_end (I.ok.hd hc) st (show s.heap.IsTuple a its.toArray from p) (by simp; lia) fun h' eb=>⟨rfl,I.turned (t':=s.toks) (fun b o hb e=>eb b o hb e) f0 f1 f3 f4 f5⟩
 self:=fun _ _ _ _ _ st h=>wpAny_pyIter_tupleiter st h
theorem yZ {P:Qx} {w:QG} {K:Qi} {tg:Expr} (it:Addr) (lo:Int) (n:Nat):Turn P w K tg (Itr lo n) [it] it (fun i h=>IsRangeIter h it (lo+(i:Nat) * 1) ((n:Int) - (i:Nat)) 1) where
 mem:=by simp
 obj:=fun i h st b hb=>by
  have e:b=it:=by simpa using hb
  subst e
  exact⟨_,st,fun v z=>by
   have z':Data.fields _=Data.cell v:=z
   cases z'⟩
 keep:=fun i h h' st k=>k it (by simp) _ st
 item:=by
  intro X hP hw hK hc i pins s σ H E I hf st hg
  subst hP hw hK
  obtain⟨f0,f1,f2,f3,f4,f5⟩:=hf it (by simp)
  have W:=Walks.range (prog:=X.prog) (w:=X.w) (I.ok.hd hc) it lo 1 n
  refine W.item i s _ _ hg st fun v h' tk hv st' kk=>?_
  obtain⟨t,rfl⟩:=hv
  have I1:Inv X pins σ H { s with heap:=h',toks:=tk }:=I.turned (fun b o hb e=>kk b o (by simpa using hb) e) f0 f1 f3 f4 f5
  refine⟨_,rfl,Gh (s:={ s with heap:=h',toks:=tk }) (n:="range_iterator") st' rfl rfl (by decide) ⟨.int (lo+i),H,I1,⟨t,?_⟩,⟨rfl,rfl⟩,st',fun b hb=>(hf b hb).1⟩⟩
  rw[Int.mul_one]
 done:=by
  intro X hP hw hK hc i pins s σ H E I hf st hg
  subst hP hw hK
  obtain⟨f0,f1,f2,f3,f4,f5⟩:=hf it (by simp)
  exact wpAny_pyNext_range_end (I.ok.hd hc) st (by have:n<=i:=hg; lia) fun h' eb=>⟨rfl,I.turned (t':=s.toks) (fun b o hb e=>eb b o hb e) f0 f1 f3 f4 f5⟩
 self:=fun _ _ _ _ _ st h=>wpAny_pyIter_rangeiter st h
end L2
namespace L2
open PySem PySem.Spec PyProof.Rows
section
variable {X:Cx} {tg:Expr}
def Mu (K:Qi) (tl:TE):TI:=fun σ H R=>tl σ H fun x H1=>∃ a,x = .ref a/\(∃ xs,SqL K H1 a xs)/\R (Itl K a) H1
def Oh (K:Qi) (tl:TE):TI:=fun σ H R=>tl σ H fun x H1=>∃ a,x = .ref a/\(∃ xs,SqT K H1 a xs)/\R (Itt K a) H1
theorem dX {l:Expr} {tl:TE} (hl:PE X l tl):PI X tg l (Mu X.K tl):=by
 intro pins s σ H R I h
 refine thn (hl pins s σ H _ I h) fun v s1 ⟨x,H1,I1,r1,q1⟩=>?_
 obtain⟨a,e,⟨xs,hq⟩,q⟩:=q1
 subst e
 cases r1
 obtain⟨its,rv,p,hz⟩:=I1.list hq
 refine Ut p.isList ?_
 refine⟨s1.heap.objs.size,[s1.heap.objs.size],_,_,H1,rfl,I1.kept (t':=s1.toks) fun b o e=>Pz _ e,BR a _,⟨_,PN _ rfl,rfl,rfl⟩,fun b hb=>?_,q⟩
 have e:b=s1.heap.objs.size:=by simpa using hb
 subst e
 exact I1.Ea (PX _) (I1.hok.fresh (PX _))
theorem iU {l:Expr} {tl:TE} (hl:PE X l tl):PI X tg l (Oh X.K tl):=by
 intro pins s σ H R I h
 refine thn (hl pins s σ H _ I h) fun v s1 ⟨x,H1,I1,r1,q1⟩=>?_
 obtain⟨a,e,⟨xs,hq⟩,q⟩:=q1
 subst e
 cases r1
 obtain⟨its,rv,p,hz⟩:=I1.tuple hq
 refine Ud (show s1.heap.IsTuple a its.toArray from p) ?_
 refine⟨s1.heap.objs.size,[s1.heap.objs.size],_,_,H1,rfl,I1.kept (t':=s1.toks) fun b o e=>Pz _ e,ye a _,⟨_,PN _ rfl,rfl,rfl⟩,fun b hb=>?_,q⟩
 have e:b=s1.heap.objs.size:=by simpa using hb
 subst e
 exact I1.Ea (PX _) (I1.hok.fresh (PX _))
theorem Fw {pins:List (Addr × Tv)} {σ:St} {H:Hp} {s:PB} {R:It->Hp->Prop} {E:Value->PB->Prop} {lo hi:Int} {t u v:Tok} {tk:Nat} (I:Inv X pins σ H s) (h1 : -(2 ^ 62)<=lo) (h2:lo < 2 ^ 62) (h3 : -(2 ^ 62)<=hi) (h4:hi < 2 ^ 62)
  (q:R (Itr lo (hi - lo).toNat) H):Qd (Qt X.prog X.w) X.A (pyIter (.ref s.heap.objs.size)) (PIE X pins σ tg R) E { s with heap:=s.heap.push { cls:=.type "range",data:=.fields #[.int lo t,.int hi u,.int 1 v] },toks:=tk }:=by
 refine wpAny_pyIter_range (IsRange.new ..) (small_one h1 h2 h3 h4) ?_
 have I1:Inv X pins σ H { s with heap:=s.heap.push { cls:=.type "range",data:=.fields #[.int lo t,.int hi u,.int 1 v] },toks:=tk }:=I.kept fun b o e=>Pz _ e
 refine⟨(s.heap.push { cls:=.type "range",data:=.fields #[.int lo t,.int hi u,.int 1 v] }).objs.size,[(s.heap.push { cls:=.type "range",data:=.fields #[.int lo t,.int hi u,.int 1 v] }).objs.size],_,_,H,rfl,
  I1.kept (t':=tk) fun b o e=>Pz _ e,yZ _ lo (hi - lo).toNat,?_,fun b hb=>?_,q⟩
 ·have e1:lo+((0:Nat):Int) * 1=lo:=by simp
  have e2:(((hi - lo).toNat:Nat):Int) - ((0:Nat):Int)=Builtin.Range.rangeSize lo hi 1:=by rw[rangeSize_one]; split <;> lia
  show IsRangeIter _ _ (lo+((0:Nat):Int) * 1) ((((hi - lo).toNat:Nat):Int) - ((0:Nat):Int)) 1
  rw[e1,e2]
  exact PN _ rfl
 ·have e:b=(s.heap.push { cls:=.type "range",data:=.fields #[.int lo t,.int hi u,.int 1 v] }).objs.size:=by simpa using hb
  subst e
  exact I1.Ea (PX _) (I1.hok.fresh (PX _))
def Ng (ta:TA):TI:=fun σ H R=>ta σ H fun vs H1=>∃ j:Int,vs=[.int j]/\-(2 ^ 62)<=j/\j < 2 ^ 62/\R (Itr 0 j.toNat) H1
theorem cL {a:Expr} {ta:TA} {p pos:Vo} (hg:Gl X "range") (hm:X.mg "range" = none) (ha:PA X [a] ta) (hs:Qz [a] X.env=[(false,Tc a X.env)]:=by rfl):PI X tg (.Call (.Name "range" p) [a] [] pos) (Ng ta):=by
 intro pins s σ H R I h
 refine Call_ (fU I hg hm boot_range (Q9 (thn (ha pos pins s σ H _ I h) fun us s1 ⟨vs,H1,I1,r1,q1⟩=>?_) hs rfl))
 obtain⟨j,e,q1,q2,q⟩:=q1
 subst e
 cases r1 with
 | cons r rr =>
  cases rr
  obtain⟨t,rfl⟩:=r
  exact call_range_1 (Fw I1 (by lia) (by lia) q1 q2 (by simpa using q))
def O4 (wi:TI) (g:TG) (tb:TS):TS:=fun D σ H=>wi σ H fun J H1=>∃ W:Nat->Nat->St->Hp->Prop,(∃ m,W 0 m σ H1)/\∀ i m σ H,W i m σ H →
 (J.stop i H/\D.nx σ H)∨(J.go i H/\∃ N:St->Hp->Prop,(∀ σ' H',N σ' H'->∃ m',m' < m/\W (i+1) m' σ' H')/\∀ x H',J.yld i H x H'->g x σ H' fun σ2 H2=>tb { D with nx:=N,ct:=N,bk:=D.nx } σ2 H2)
def ug (fp:List Addr) (h:Rb):List (Addr × Tv):=fp.filterMap fun b=>(h.get? b).map fun o=>(b,o)
theorem iQ {fp:List Addr} {h:Rb} {b:Addr} {o:Tv} (hb:b∈fp) (e:h.get? b=some o):(b,o)∈ug fp h:=List.mem_filterMap.mpr ⟨b,hb,by rw[e]; rfl⟩
theorem Ay {fp:List Addr} {h:Rb} {p:Addr × Tv} (hp:p∈ug fp h):p.1∈fp/\h.get? p.1=some p.2:=by
 obtain⟨b,hb,e⟩:=List.mem_filterMap.mp hp
 cases q:h.get? b with
 | none=>rw[q] at e; cases e
 | some o =>
  rw[q] at e
  have e':(b,o)=p:=QJ e
  subst e'
  exact⟨hb,q⟩
theorem Inv.pinned {pins:List (Addr × Tv)} {σ:St} {H:Hp} {s:PB} {fp:List Addr} (I:Inv X pins σ H s) (hf:∀ b∈fp,uO X pins H b) (ho:∀ b∈fp,∃ o,s.heap.get? b=some o/\∀ v,o.data≠.cell v):Inv X (pins++ug fp s.heap) σ H s :=
 I.Ad fun p hp=>(List.mem_append.mp hp).elim (fun z=>I.pin p (Rv _ z)) fun z=>by
  obtain⟨hb,e⟩:=Ay z
  obtain⟨f0,f1,f2,_⟩:=hf p.1 hb
  obtain⟨o,e',d⟩:=ho p.1 hb
  rw[e] at e'; cases e'
  exact⟨e,f0,f1,f2,d⟩
theorem Inv.lY {pins pl:List (Addr × Tv)} {σ:St} {H:Hp} {s:PB} (I:Inv X (pins++pl) σ H s):Inv X pins σ H s:=I.Ad fun p hp=>I.pin p (Rv _ (W2 _ hp))
theorem gK {iter:Expr} {body:List Stmt} {wi:TI} {g:TG} {tb:TS} {pos:Vo} (hp:PassesOwn (Qt X.prog X.w) X.A X.env X.xe) (hc:X.calm=true) (hi:PI X tg iter wi) (hg:PG X tg g) (hb:PSs X body tb)
  (hs:∀ x,Xk iter X.env x=pure x:=by intro _; rfl):PS X (.For tg iter body [] pos) (O4 wi g tb):=by
 intro pins s σ H D I h
 refine wpAny_For (thn (hi pins s σ H _ I h) fun v s1 h1=>thn h1 fun itv s2 h2=>?_) hs
 obtain⟨it,fp,tn,J,H2,e,I2,T,st2,f2,W,⟨m0,w0⟩,turn⟩:=h2
 subst e
 have stat:∀ {H':Hp},(∀ b∈fp,H' b=none)->∀ b∈fp,uO X pins H' b:=fun hn b hb=>⟨hn b hb,(f2 b hb).2⟩
 refine codeAny_forLoop_any (fun n s'=>∃ i σ' H',Inv X pins σ' H' s'/\tn i s'.heap/\(∀ b∈fp,H' b=none)/\W i n σ' H') ?_ m0 ⟨0,σ,H2,I2,st2,fun b hb=>(f2 b hb).1,w0⟩
 rintro n s3 ⟨i,σ3,H3,I3,st3,fr3,w3⟩
 rcases turn i n σ3 H3 w3 with⟨stop,qn⟩ | ⟨go,N,hN,step⟩
 ·refine Uk hp (thn (T.done X rfl rfl rfl hc i pins s3 σ3 H3 X.xe I3 (stat fr3) st3 stop) fun r s4 ⟨hr,I4⟩=>?_)
  subst hr
  exact WK ⟨σ3,H3,I4,qn⟩
 ·refine Uk hp (thn (T.item X rfl rfl rfl hc i pins s3 σ3 H3 X.xe I3 (stat fr3) st3 go) fun r s4 ⟨u,hr,h4⟩=>?_)
  subst hr
  refine Uk hp (thn h4 fun _ s5 ⟨x,H5,I5,r5,y5,st5,fr5⟩=>?_)
  have I5':=I5.pinned (stat fr5) (T.obj _ _ st5)
  refine Uk hp (thn (hg _ s5 σ3 H5 x u _ I5' r5 (step x H5 y5)) fun _ s6 ⟨σ6,H6,I6,q6⟩=>?_)
  refine Uk hp (thn (hb _ s6 σ6 H6 _ I6 q6) fun f s7 q7=>?_)
  have again:∀ {σ7:St} {H7:Hp},Inv X (pins++ug fp s5.heap) σ7 H7 s7->N σ7 H7->∃ m,m < n/\∃ i σ' H',Inv X pins σ' H' s7/\tn i s7.heap/\(∀ b∈fp,H' b=none)/\W i m σ' H':=fun {σ7 H7} I7 n7=>by
   obtain⟨m',hm,w7⟩:=hN σ7 H7 n7
   refine⟨m',hm,i+1,σ7,H7,I7.lY,T.keep _ _ _ st5 fun b hb o e=>(I7.pin (b,o) (Rv _ (Rv _ (iQ hb e)))).1,fun b hb=>?_,w7⟩
   obtain⟨o,e,d⟩:=T.obj _ _ st5 b hb
   exact (I7.pin (b,o) (Rv _ (Rv _ (iQ hb e)))).2.1
  cases f with
  | next=>obtain⟨σ7,H7,I7,n7⟩:=q7; exact again I7 n7
  | cont=>obtain⟨σ7,H7,I7,n7⟩:=q7; exact again I7 n7
  | brk=>obtain⟨σ7,H7,I7,q7⟩:=q7; exact⟨σ7,H7,I7.lY,q7⟩
  | ret v=>obtain⟨x7,σ7,H7,I7,r7,q7⟩:=q7; exact⟨x7,σ7,H7,I7.lY,r7,q7⟩
end
theorem mj {K:Qi} {a:Addr} {xs:List V} {g:TG} {tb:TS} {D:Ends} {σ:St} {H:Hp} (Pv:Nat->St->Hp->Prop) (h0:Pv 0 σ H) (hl:∀ i σ H,i<=xs.length->Pv i σ H->SqL K H a xs)
  (hs:∀ i x σ H,xs[i]? = some x->Pv i σ H->g x σ H fun σ2 H2=>tb { D with nx:=Pv (i+1),ct:=Pv (i+1),bk:=D.nx } σ2 H2) (hd:∀ σ H,Pv xs.length σ H->D.nx σ H) :
  ∃ W:Nat->Nat->St->Hp->Prop,(∃ m,W 0 m σ H)/\∀ i m σ H,W i m σ H →
   ((Itl K a).stop i H/\D.nx σ H)∨((Itl K a).go i H/\∃ N:St->Hp->Prop,(∀ σ' H',N σ' H'->∃ m',m' < m/\W (i+1) m' σ' H')/\∀ x H',(Itl K a).yld i H x H'->g x σ H' fun σ2 H2=>tb { D with nx:=N,ct:=N,bk:=D.nx } σ2 H2):=by
 refine⟨fun i m σ H=>m=xs.length - i/\i<=xs.length/\Pv i σ H,⟨xs.length,by simp,QB _,h0⟩,?_⟩
 rintro i m σ H ⟨rfl,hi,p⟩
 have q:=hl i σ H hi p
 by_cases hlt:i < xs.length
 ·refine .inr ⟨⟨xs,xs[i],q,by simp [hlt]⟩,Pv (i+1),fun σ' H' p'=>⟨xs.length - (i+1),by lia,rfl,hlt,p'⟩,fun x H' y=>?_⟩
  obtain⟨e,y⟩:=y
  subst e
  exact hs i x σ _ (y xs q) p
 ·have e:i=xs.length:=by lia
  subst e
  exact .inl ⟨⟨xs,q,PX _⟩,hd σ H p⟩
theorem uK {K:Qi} {a:Addr} {xs:List V} {g:TG} {tb:TS} {D:Ends} {σ:St} {H:Hp} (Pv:Nat->St->Hp->Prop) (h0:Pv 0 σ H) (hl:∀ i σ H,i<=xs.length->Pv i σ H->SqT K H a xs)
  (hs:∀ i x σ H,xs[i]? = some x->Pv i σ H->g x σ H fun σ2 H2=>tb { D with nx:=Pv (i+1),ct:=Pv (i+1),bk:=D.nx } σ2 H2) (hd:∀ σ H,Pv xs.length σ H->D.nx σ H) :
  ∃ W:Nat->Nat->St->Hp->Prop,(∃ m,W 0 m σ H)/\∀ i m σ H,W i m σ H →
   ((Itt K a).stop i H/\D.nx σ H)∨((Itt K a).go i H/\∃ N:St->Hp->Prop,(∀ σ' H',N σ' H'->∃ m',m' < m/\W (i+1) m' σ' H')/\∀ x H',(Itt K a).yld i H x H'->g x σ H' fun σ2 H2=>tb { D with nx:=N,ct:=N,bk:=D.nx } σ2 H2):=by
 refine⟨fun i m σ H=>m=xs.length - i/\i<=xs.length/\Pv i σ H,⟨xs.length,by simp,QB _,h0⟩,?_⟩
 rintro i m σ H ⟨rfl,hi,p⟩
 have q:=hl i σ H hi p
 by_cases hlt:i < xs.length
 ·refine .inr ⟨⟨xs,xs[i],q,by simp [hlt]⟩,Pv (i+1),fun σ' H' p'=>⟨xs.length - (i+1),by lia,rfl,hlt,p'⟩,fun x H' y=>?_⟩
  obtain⟨e,y⟩:=y
  subst e
  exact hs i x σ _ (y xs q) p
 ·have e:i=xs.length:=by lia
  subst e
  exact .inl ⟨⟨xs,q,PX _⟩,hd σ H p⟩
theorem iI {lo:Int} {n:Nat} {g:TG} {tb:TS} {D:Ends} {σ:St} {H:Hp} (Pv:Nat->St->Hp->Prop) (h0:Pv 0 σ H)
  (hs:∀ i σ H,i < n->Pv i σ H->g (.int (lo+i)) σ H fun σ2 H2=>tb { D with nx:=Pv (i+1),ct:=Pv (i+1),bk:=D.nx } σ2 H2) (hd:∀ σ H,Pv n σ H->D.nx σ H) :
  ∃ W:Nat->Nat->St->Hp->Prop,(∃ m,W 0 m σ H)/\∀ i m σ H,W i m σ H →
   ((Itr lo n).stop i H/\D.nx σ H)∨((Itr lo n).go i H/\∃ N:St->Hp->Prop,(∀ σ' H',N σ' H'->∃ m',m' < m/\W (i+1) m' σ' H')/\∀ x H',(Itr lo n).yld i H x H'->g x σ H' fun σ2 H2=>tb { D with nx:=N,ct:=N,bk:=D.nx } σ2 H2):=by
 refine⟨fun i m σ H=>m=n - i/\i<=n/\Pv i σ H,⟨n,by simp,QB _,h0⟩,?_⟩
 rintro i m σ H ⟨rfl,hi,p⟩
 by_cases hlt:i < n
 ·refine .inr ⟨hlt,Pv (i+1),fun σ' H' p'=>⟨n - (i+1),by lia,rfl,hlt,p'⟩,fun x H' y=>?_⟩
  obtain⟨e,y⟩:=y
  subst e y
  exact hs i σ _ hlt p
 ·have e:i=n:=by lia
  subst e
  exact .inl ⟨PX _,hd σ H p⟩
theorem Fo {c:TT} {tb:TS} {D:Ends} {σ:St} {H:Hp} (Pv:St->Hp->Prop) (μ:St->Hp->Nat) (h0:Pv σ H)
  (hs:∀ σ H,Pv σ H->c σ H fun b H1=>if b=true then tb { D with nx:=fun σ' H'=>Pv σ' H'/\μ σ' H' < μ σ H,ct:=fun σ' H'=>Pv σ' H'/\μ σ' H' < μ σ H,bk:=D.nx } σ H1 else D.nx σ H1)
  (mono:∀ σ H Q Q',(∀ b H1,Q b H1->Q' b H1)->c σ H Q->c σ H Q'):GK c tb D σ H:=by
 refine⟨fun m σ H=>m=μ σ H/\Pv σ H,⟨_,rfl,h0⟩,?_⟩
 rintro m σ H ⟨rfl,p⟩
 refine mono σ H _ _ (fun b H1 q=>?_) (hs σ H p)
 cases b with
 | true=>exact⟨_,fun σ' H' ⟨p',l⟩=>⟨_,l,rfl,p'⟩,q⟩
 | false=>exact q
end L2
namespace L2
open PySem PySem.Spec PyProof.Rows
abbrev R2:=V->V->Hp->VK->Prop
def OpR (X:Cx) (f:Value->Value->Sem Value) (r:R2):Prop :=
 ∀ (pins:List (Addr × Tv)) (s:PB) (σ:St) (H:Hp) (x y:V) (v u:Value) (Q:VK),Inv X pins σ H s->RelV x v->RelV y u->r x y H Q →
  Qd (Qt X.prog X.w) X.A (f v u) (EP X pins σ Q) X.xe s
def UnR (X:Cx) (f:Value->Sem Value) (r:V->Hp->VK->Prop):Prop :=
 ∀ (pins:List (Addr × Tv)) (s:PB) (σ:St) (H:Hp) (x:V) (v:Value) (Q:VK),Inv X pins σ H s->RelV x v->r x H Q →
  Qd (Qt X.prog X.w) X.A (f v) (EP X pins σ Q) X.xe s
def iy (X:Cx) (f:Value) (r:List V->Hp->VK->Prop):Prop :=
 ∀ (pins:List (Addr × Tv)) (s:PB) (σ:St) (H:Hp) (xs:List V) (us:List Value) (Q:VK),Inv X pins σ H s->Vals xs us->r xs H Q →
  Qd (Qt X.prog X.w) X.A (call f us) (EP X pins σ Q) X.xe s
def tOp (r:R2) (ta tb:TE):TE:=fun σ H Q=>ta σ H fun x H1=>tb σ H1 fun y H2=>r x y H2 Q
def tUn (r:V->Hp->VK->Prop) (ta:TE):TE:=fun σ H Q=>ta σ H fun x H1=>r x H1 Q
inductive RII (C:Int->Int->Prop) (g:Int->Int->V) (x:V) (y:V) (H:Hp) (Q:VK):Prop where
 | mk (i:Int) (j:Int) (z0:x = .int i) (z1:y = .int j) (z2:C i j) (z3:Q (g i j) H):RII C g x y H Q
def rI (C:Int->Int->Prop) (g:Int->Int->V):R2:=fun x y H Q=>RII C g x y H Q
inductive Oe (g:Int->Int->V) (x:V) (y:V) (H:Hp) (Q:VK):Prop where
 | mk (i:Int) (j:Int) (z0:x = .int i) (z1:y = .int j) (z2:Q (g i j) H):Oe g x y H Q
def rI0 (g:Int->Int->V):R2:=fun x y H Q=>Oe g x y H Q
inductive RUI (g:Int->V) (x:V) (H:Hp) (Q:VK):Prop where
 | mk (i:Int) (z0:x = .int i) (z1:Q (g i) H):RUI g x H Q
def rU (g:Int->V):V->Hp->VK->Prop:=fun x H Q=>RUI g x H Q
section
variable {X:Cx} {a b c:Expr} {ta tb tc:TE} {pos:Vo}
theorem Nx (ha:PE X a ta) (hb:PE X b tb) {pins:List (Addr × Tv)} {s:PB} {σ:St} {H:Hp} {R:V->V->Hp->Prop} (I:Inv X pins σ H s)
  (h:ta σ H fun x H1=>tb σ H1 fun y H2=>R x y H2) {Q:Value->PB->Prop} {f:Value->Value->Sem Value}
  (hf:∀ v u s2 x y H2,Inv X pins σ H2 s2->RelV x v->RelV y u->R x y H2->Qd (Qt X.prog X.w) X.A (f v u) Q X.xe s2) :
  Qd (Qt X.prog X.w) X.A (Tc a X.env) (fun v s₁=>Qd (Qt X.prog X.w) X.A (Tc b X.env) (fun u s₂=>Qd (Qt X.prog X.w) X.A (f v u) Q X.xe s₂) X.xe s₁) X.xe s:=by
 refine thn (ha pins s σ H _ I h) fun v s1 ⟨x,H1,I1,r1,q1⟩=>?_
 refine thn (hb pins s1 σ H1 _ I1 q1) fun u s2 ⟨y,H2,I2,r2,q2⟩=>?_
 exact hf v u s2 x y H2 I2 r1 r2 q2
theorem aO {op:Operator} {r:R2} (ho:OpR X (Ux op) r) (ha:PE X a ta) (hb:PE X b tb):PE X (.BinOp a op b pos) (tOp r ta tb):=by
 intro pins s σ H Q I h
 exact wpAny_BinOp (Nx ha hb I h fun v u s2 x y H2 I2 rx ry q=>ho pins s2 σ H2 x y v u Q I2 rx ry q)
theorem IW {op:UnaryOp} {r:V->Hp->VK->Prop} (ho:UnR X (unaryOp op) r) (ha:PE X a ta):PE X (.UnaryOp op a pos) (tUn r ta):=by
 intro pins s σ H Q I h
 exact UnaryOp_ (thn (ha pins s σ H _ I h) fun v s1 ⟨x,H1,I1,r1,q1⟩=>ho pins s1 σ H1 x v Q I1 r1 q1)
theorem opI {f:Value->Value->Sem Value} {C:Int->Int->Prop} {g:Int->Int->Int}
  (rule:∀ (i j:Int) (t u:Tok) (s:PB) (Q:Value->PB->Prop) (E:Value->PB->Prop),C i j->Q (.int (g i j) s.toks) { s with toks:=s.toks+1 }->Qd (Qt X.prog X.w) X.A (f (.int i t) (.int j u)) Q E s) :
  OpR X f (rI C fun i j=>.int (g i j)):=by
 intro pins s σ H x y v u Q I rx ry h
 obtain⟨i,j,rfl,rfl,hc,q⟩:=h
 obtain⟨t,rfl⟩:=rx
 obtain⟨t',rfl⟩:=ry
 exact rule i j t t' s _ _ hc ⟨.int (g i j),H,I.tok _,⟨_,rfl⟩,q⟩
theorem Od {f:Value->Value->Sem Value} {g:Int->Int->Int}
  (rule:∀ (i j:Int) (t u:Tok) (s:PB) (Q:Value->PB->Prop) (E:Value->PB->Prop),Q (.int (g i j) s.toks) { s with toks:=s.toks+1 }->Qd (Qt X.prog X.w) X.A (f (.int i t) (.int j u)) Q E s) :
  OpR X f (rI0 fun i j=>.int (g i j)):=by
 intro pins s σ H x y v u Q I rx ry h
 obtain⟨i,j,rfl,rfl,q⟩:=h
 obtain⟨t,rfl⟩:=rx
 obtain⟨t',rfl⟩:=ry
 exact rule i j t t' s _ _ ⟨.int (g i j),H,I.tok _,⟨_,rfl⟩,q⟩
theorem Nt {f:Value->Value->Sem Value} {g:Int->Int->Bool}
  (rule:∀ (i j:Int) (t u:Tok) (s:PB) (Q:Value->PB->Prop) (E:Value->PB->Prop),Q (.bool (g i j)) s->Qd (Qt X.prog X.w) X.A (f (.int i t) (.int j u)) Q E s) :
  OpR X f (rI0 fun i j=>.bl (g i j)):=by
 intro pins s σ H x y v u Q I rx ry h
 obtain⟨i,j,rfl,rfl,q⟩:=h
 obtain⟨t,rfl⟩:=rx
 obtain⟨t',rfl⟩:=ry
 exact rule i j t t' s _ _ ⟨.bl (g i j),H,I,rfl,q⟩
def Oz (i j:Int):Prop:=0 < j/\j < 1073741824
def Pu (i j:Int):Prop:=0<=j/\j<=1000000/\i.natAbs < 2 ^ 64
def NT (i j:Int):Prop:=(-(2 ^ 64) < i/\i < 2 ^ 64)∨(-(2 ^ 64) < j/\j < 2 ^ 64)
theorem NT.ok {i j:Int} (h:NT i j):IntMulOk i j:=by
 rcases h with⟨h1,h2⟩ | ⟨h1,h2⟩
 ·exact .of_left (intBits_le_64 h1 h2)
 ·exact .of_right (intBits_le_64 h1 h2)
theorem bT:OpR X (Ux .Add) (rI0 fun i j=>.int (i+j)):=Od fun _ _ _ _ _ _ _ q=>add_int q
theorem nj:OpR X (Ux .Sub) (rI0 fun i j=>.int (i - j)):=Od fun _ _ _ _ _ _ _ q=>sub_int q
theorem gM:OpR X (Ux .Mult) (rI NT fun i j=>.int (i * j)):=opI fun _ _ _ _ _ _ _ hc q=>mul_int q hc.ok
theorem vJ:OpR X (Ux .FloorDiv) (rI Oz fun i j=>.int (i / j)):=opI fun i j _ _ _ _ _ hc q=>by
 have h1:(0:Int) < j:=hc.1
 have h2:j < 1073741824:=hc.2
 exact floordiv_int (by lia) (by rw[Int.fdiv_eq_ediv_of_nonneg i (by lia)]; exact q) (.inl (PyProof.noPylong_small (by lia)))
theorem cV:OpR X (Ux .Mod) (rI (fun _ j=>0 < j) fun i j=>.int (i % j)):=opI fun i j _ _ _ _ _ hc q=>by
 have h1:(0:Int) < j:=hc
 exact mod_int' (by lia) (by rw[Int.fmod_eq_emod_of_nonneg i (by lia)]; exact q)
theorem mX:OpR X (Ux .Pow) (rI Pu fun i j=>.int (i ^ j.toNat)):=opI fun _ _ _ _ _ _ _ hc q=>pow_int_small hc.1 hc.2.1 hc.2.2 q
theorem unI {f:Value->Sem Value} {g:Int->Int}
  (rule:∀ (i:Int) (t:Tok) (s:PB) (Q:Value->PB->Prop) (E:Value->PB->Prop),Q (.int (g i) s.toks) { s with toks:=s.toks+1 }->Qd (Qt X.prog X.w) X.A (f (.int i t)) Q E s) :
  UnR X f (rU fun i=>.int (g i)):=by
 intro pins s σ H x v Q I rx h
 obtain⟨i,rfl,q⟩:=h
 obtain⟨t,rfl⟩:=rx
 exact rule i t s _ _ ⟨.int (g i),H,I.tok _,⟨_,rfl⟩,q⟩
theorem zj:UnR X (unaryOp .USub) (rU fun i=>.int (-i)):=unI fun _ _ _ _ _ q=>neg_int q
end
def Ot:V->V->Bool
 | .non,.non=>true | .non,.int _=>true | .int _,.non=>true | .non,.bl _=>true | .bl _,.non=>true | .non,.str _=>true | .str _,.non=>true
 | .int _,.int _=>true | .bl _,.bl _=>true | .str _,.str _=>true | .byt _,.byt _=>true
 | .int _,.str _=>true | .str _,.int _=>true | .bl _,.str _=>true | .str _,.bl _=>true
 | _,_=>false
def rEq:R2:=fun x y H Q=>Ot x y=true/\Q (.bl (decide (x=y))) H
def rNe:R2:=fun x y H Q=>Ot x y=true/\Q (.bl (!decide (x=y))) H
theorem Cm {i j:Int}:decide (V.int i=V.int j)=(i == j):=by
 rw[VL]
 simp
theorem HF {i j:Bool}:decide (V.bl i=V.bl j)=(i == j):=by
 rw[VL]
 simp
theorem Dn {i j:Rx}:decide (V.str i=V.str j)=(i == j):=by
 rw[VL]
 simp
theorem Bg {i j:Array UInt8}:decide (V.byt i=V.byt j)=(i.toList == j.toList):=by
 rw[VL]
 cases i
 cases j
 simp
section
variable {X:Cx} {a b c:Expr} {ta tb tc:TE} {pos:Vo}
theorem bM {pins:List (Addr × Tv)} {σ:St} {H:Hp} {s:PB} {Q:VK} {k k':Bool} (I:Inv X pins σ H s) (q:Q (.bl k) H) (e:k=k'):EP X pins σ Q (.bool k') s:=by
 subst e
 exact⟨.bl k,H,I,rfl,q⟩
theorem gO:OpR X (Td .Eq) rEq:=by
 intro pins s σ H x y v u Q I rx ry h
 obtain⟨hs,q⟩:=h
 cases x with
 | non =>
  cases rx
  cases y with
  | non=>cases ry; exact PySem.EqNone.eq_none_none (bM I q (by simp))
  | bl j=>cases ry; exact PySem.EqNone.eq_none_bool (bM I q (by simp))
  | int j=>obtain⟨t',rfl⟩:=ry; exact PySem.EqNone.eq_none_int (bM I q (by simp))
  | str j=>obtain⟨t',rfl⟩:=ry; exact PySem.EqNone.eq_none_str (bM I q (by simp))
  | _=>exact absurd (show false=true from hs) Qc
 | bl i =>
  cases rx
  cases y with
  | non=>cases ry; exact PySem.EqNone.eq_bool_none (bM I q (by simp))
  | bl j=>cases ry; exact eq_bool (bM I q HF)
  | str j=>obtain⟨t',rfl⟩:=ry; exact PySem.EqMixed.eq_bool_str (bM I q (by simp))
  | _=>exact absurd (show false=true from hs) Qc
 | int i =>
  obtain⟨t,rfl⟩:=rx
  cases y with
  | non=>cases ry; exact PySem.EqNone.eq_int_none (bM I q (by simp))
  | int j=>obtain⟨t',rfl⟩:=ry; exact eq_int (bM I q Cm)
  | str j=>obtain⟨t',rfl⟩:=ry; exact PySem.EqMixed.eq_int_str (bM I q (by simp))
  | _=>exact absurd (show false=true from hs) Qc
 | str i =>
  obtain⟨t,rfl⟩:=rx
  cases y with
  | non=>cases ry; exact PySem.EqNone.eq_str_none (bM I q (by simp))
  | bl j=>cases ry; exact PySem.EqMixed.eq_str_bool (bM I q (by simp))
  | int j=>obtain⟨t',rfl⟩:=ry; exact PySem.EqMixed.eq_str_int (bM I q (by simp))
  | str j=>obtain⟨t',rfl⟩:=ry; exact eq_str (bM I q Dn)
  | _=>exact absurd (show false=true from hs) Qc
 | byt i =>
  obtain⟨t,rfl⟩:=rx
  cases y with
  | byt j=>obtain⟨t',rfl⟩:=ry; exact PySem.W.eq_bytes (bM I q Bg)
  | _=>exact absurd (show false=true from hs) Qc
 | _=>cases y <;> exact absurd (show false=true from hs) Qc
theorem Js:OpR X (Td .NotEq) rNe:=by
 intro pins s σ H x y v u Q I rx ry h
 obtain⟨hs,q⟩:=h
 cases x with
 | non =>
  cases rx
  cases y with
  | non=>cases ry; exact PySem.EqNone.ne_none_none (bM I q (by simp))
  | bl j=>cases ry; exact PySem.EqNone.ne_none_bool (bM I q (by simp))
  | int j=>obtain⟨t',rfl⟩:=ry; exact PySem.EqNone.ne_none_int (bM I q (by simp))
  | str j=>obtain⟨t',rfl⟩:=ry; exact PySem.EqNone.ne_none_str (bM I q (by simp))
  | _=>exact absurd (show false=true from hs) Qc
 | bl i =>
  cases rx
  cases y with
  | non=>cases ry; exact PySem.EqNone.ne_bool_none (bM I q (by simp))
  | bl j=>cases ry; exact ne_bool (bM I q (congrArg not HF))
  | str j=>obtain⟨t',rfl⟩:=ry; exact PySem.EqMixed.ne_bool_str (bM I q (by simp))
  | _=>exact absurd (show false=true from hs) Qc
 | int i =>
  obtain⟨t,rfl⟩:=rx
  cases y with
  | non=>cases ry; exact PySem.EqNone.ne_int_none (bM I q (by simp))
  | int j=>obtain⟨t',rfl⟩:=ry; exact ne_int (bM I q (congrArg not Cm))
  | str j=>obtain⟨t',rfl⟩:=ry; exact PySem.EqMixed.ne_int_str (bM I q (by simp))
  | _=>exact absurd (show false=true from hs) Qc
 | str i =>
  obtain⟨t,rfl⟩:=rx
  cases y with
  | non=>cases ry; exact PySem.EqNone.ne_str_none (bM I q (by simp))
  | bl j=>cases ry; exact PySem.EqMixed.ne_str_bool (bM I q (by simp))
  | int j=>obtain⟨t',rfl⟩:=ry; exact PySem.EqMixed.ne_str_int (bM I q (by simp))
  | str j=>obtain⟨t',rfl⟩:=ry; exact ne_str (bM I q (congrArg not Dn))
  | _=>exact absurd (show false=true from hs) Qc
 | byt i =>
  obtain⟨t,rfl⟩:=rx
  cases y with
  | byt j=>obtain⟨t',rfl⟩:=ry; exact PySem.W.ne_bytes (bM I q (congrArg not Bg))
  | _=>exact absurd (show false=true from hs) Qc
 | _=>cases y <;> exact absurd (show false=true from hs) Qc
theorem Af:OpR X (Td .Lt) (rI0 fun i j=>.bl (decide (i < j))):=Nt fun _ _ _ _ _ _ _ q=>lt_int q
theorem vH:OpR X (Td .Gt) (rI0 fun i j=>.bl (decide (j < i))):=Nt fun _ _ _ _ _ _ _ q=>gt_int q
theorem yj:OpR X (Td .GtE) (rI0 fun i j=>.bl (decide (j<=i))):=Nt fun _ _ _ _ _ _ _ q=>ge_int q
theorem bf (b:Expr) {op:CmpOp} (h:op≠.In:=by decide) (h2:op≠.NotIn:=by decide):Up op b=false:=by
 have e1:(op == CmpOp.In)=false:=by cases op <;> first | rfl | exact absurd rfl h
 have e2:(op == CmpOp.NotIn)=false:=by cases op <;> first | rfl | exact absurd rfl h2
 cases b <;> simp [Up,e1,e2]
theorem f9 {op:CmpOp} {r:R2} (ho:OpR X (Td op) r) (ha:PE X a ta) (hb:PE X b tb) (hm:Up op b=false):PE X (.Compare a [op] [b] pos) (tOp r ta tb):=by
 intro pins s σ H Q I h
 exact wpAny_Compare1 (Nx ha hb I h fun v u s2 x y H2 I2 rx ry q=>ho pins s2 σ H2 x y v u Q I2 rx ry q) hm
def Ny (t:TE):TT:=fun σ H Q=>t σ H fun x H'=>ExB x fun k=>Q k H'
theorem aV {op:CmpOp} {r:R2} (ho:OpR X (Td op) r) (ha:PE X a ta) (hb:PE X b tb) (hm:Up op b=false):PT X (.Compare a [op] [b] pos) (Ny (tOp r ta tb)):=by
 intro pins s σ H Q I h
 refine wpAny_isTrue_Compare1 (thn (ha pins s σ H _ I h) fun v s1 ⟨x,H1,I1,r1,q1⟩=>thn (hb pins s1 σ H1 _ I1 q1) fun u s2 ⟨y,H2,I2,r2,q2⟩ =>
  thn (ho pins s2 σ H2 x y v u _ I2 r1 r2 q2) fun c s3 ⟨z,H3,I3,r3,k,e,q3⟩=>?_) hm
 subst e
 cases r3
 exact Tp ⟨H3,I3,q3⟩
theorem rE:(sizeLine:Nat) < 2 ^ 63:=by rw[Uw]; decide
theorem vals1 {x:V} {us:List Value} (r:Vals [x] us):∃ u,us=[u]/\RelV x u:=by
 cases r with
 | cons r1 r2=>cases r2; exact⟨_,rfl,r1⟩
theorem vals2 {x y:V} {us:List Value} (r:Vals [x,y] us):∃ u w',us=[u,w']/\RelV x u/\RelV y w':=by
 cases r with
 | cons r1 r2 =>
  cases r2 with
  | cons r3 r4=>cases r4; exact⟨_,_,rfl,r1,r3⟩
theorem jF:iy X (.builtin "abs") (fun xs H Q=>∃ i,xs=[.int i]/\Q (.int (if i < 0 then -i else i)) H):=by
 intro pins s σ H xs us Q I r h
 obtain⟨i,rfl,q⟩:=h
 obtain⟨u,rfl,t,rfl⟩:=vals1 r
 exact call_abs_int fun u tk=>⟨.int (if i < 0 then -i else i),H,I.tok _,⟨_,rfl⟩,q⟩
theorem Bl (hc:X.calm=true):iy X (.builtin "max") (fun xs H Q=>∃ i j,xs=[.int i,.int j]/\Q (.int (if j > i then j else i)) H):=by
 intro pins s σ H xs us Q I r h
 obtain⟨i,j,rfl,q⟩:=h
 obtain⟨u,w',rfl,⟨t,rfl⟩,⟨t',rfl⟩⟩:=vals2 r
 refine max_two_ints (I.ok.hd hc) fun h' tk k=>⟨_,H,I.kept k,?_,q⟩
 by_cases hj:j > i
 ·rw[if_pos hj,if_pos hj]; exact⟨_,rfl⟩
 ·rw[if_neg hj,if_neg hj]; exact⟨_,rfl⟩
theorem uv (hc:X.calm=true):iy X (.builtin "min") (fun xs H Q=>∃ i j,xs=[.int i,.int j]/\Q (.int (if j < i then j else i)) H):=by
 intro pins s σ H xs us Q I r h
 obtain⟨i,j,rfl,q⟩:=h
 obtain⟨u,w',rfl,⟨t,rfl⟩,⟨t',rfl⟩⟩:=vals2 r
 refine min_two_ints (I.ok.hd hc) fun h' tk k=>⟨_,H,I.kept k,?_,q⟩
 by_cases hj:j < i
 ·rw[if_pos hj,if_pos hj]; exact⟨_,rfl⟩
 ·rw[if_neg hj,if_neg hj]; exact⟨_,rfl⟩
theorem Az:iy X (.type "int") (fun xs H Q=>(∃ i,xs=[.int i]/\Q (.int i) H)∨∃ k,xs=[.bl k]/\Q (.int (if k then 1 else 0)) H):=by
 intro pins s σ H xs us Q I r h
 rcases h with⟨i,rfl,q⟩ | ⟨k,rfl,q⟩
 ·obtain⟨u,rfl,t,rfl⟩:=vals1 r
  exact call_int_int ⟨.int i,H,I,⟨_,rfl⟩,q⟩
 ·obtain⟨u,rfl,r1⟩:=vals1 r
  cases r1
  exact call_int_bool ⟨.int (if k then 1 else 0),H,I.tok _,⟨_,rfl⟩,q⟩
end
end L2
namespace L2
open PySem PySem.Spec PyProof.Rows
structure N8 (h:Rb) (x dx C:Addr) (mA:Rx->Option Value):Prop where
 obj:h.get? x=some (X7 C dx)
 ns:h.Ns1 dx mA
 ne:dx≠x
theorem zM {h:Rb} {dx:Addr} {mA:Rx->Option Value} (n:h.Ns1 dx mA):∃ od,h.get? dx=some od/\∀ name,PySem.W.lookIn name od=some (mA name):=by
 obtain⟨o,es,ep,ho,hd,hk,_,hm⟩:=n
 refine⟨o,ho,fun name=>?_⟩
 have e:=hm name
 unfold nsFind findBy at e
 rw[← Array.find?_toList] at e
 unfold PySem.W.lookIn
 rw[hd]
 dsimp only
 split
 ·rename_i y q
  rw[q] at e
  exact congrArg some e
 ·rename_i q
  rw[q] at e
  have a:es.toList.any (·.refKey)=false:=by
   rw[List.any_eq_false]
   intro y hy
   obtain⟨z,t,hkey⟩:=hk y (Array.mem_toList_iff.mp hy)
   simp [DictEntry.refKey,hkey]
  have a':¬ es.toList.any (·.refKey)=true:=by rw[a]; exact Qc
  rw[if_neg a']
  exact congrArg some e
theorem N8.look {h:Rb} {x dx C:Addr} {mA:Rx->Option Value} (I:N8 h x dx C mA):∃ od,PySem.W.InstAt h x (X7 C dx) C (some od)/\∀ name,PySem.W.lookIn name od=some (mA name) :=
 let ⟨od,ho,hl⟩:=zM I.ns
 ⟨od,⟨I.obj,rfl,rfl,ho⟩,hl⟩
section
variable {prog:Qx} {w:QG} {A:QK} {E:Value->PB->Prop} {s:PB} {K:Qi} {x dx C f:Addr} {mA:Rx->Option Value} {name:Rx} {v:Value}
end
theorem Di.some_of {v:V} {o:Option Value} (r:Di (some v) o):∃ u,o=some u/\RelV v u:=by
 cases o with
 | none=>exact (show False from r).elim
 | some u=>exact⟨u,rfl,r⟩
section
variable {P:Qx} {w:QG} {H H':Hp} {h h':Rb} {a C dx:Addr} {fs fs':List (Rx × V)}
theorem J8 (hok:HOk P w H h) (e:H a=some (.ins C dx fs)):∃ mA,N8 h a dx C mA/\(∀ f,Di (fs.lookup f) (mA f))/\PySem.Within mA (fs.map (·.1))/\fs.length<=1000/\H dx=some (.own a):=by
 obtain⟨d,z,ne,ob,mA,n,r,q⟩:=(show eF P w H h a (.ins C dx fs) from hok a _ e)
 exact⟨mA,⟨ob,n,ne⟩,r,q,z,d⟩
end
structure Cls (K:Qi) (C:Addr):Prop where
 pg:PySem.W.plainGet K C Str.empty=true
 hd:PySem.W.hasDictIn K C=true
 po:PySem.W.plainOver K C=true
 sa:PySem.W.findIn K (.ref C) "__setattr__" = some (some (.builtin "object.__setattr__"))
theorem Cls.get {K:Qi} {C:Addr} (c:Cls K C) (f:Rx):PySem.W.plainGet K C f=true:=c.pg
section
variable {X:Cx} {pins:List (Addr × Tv)} {σ:St} {H:Hp} {s:PB} {a C dx:Addr} {fs:List (Rx × V)} {f:Rx} {v:V} {A:QK} {E:Value->PB->Prop}
end
section
variable {X:Cx} {o e value:Expr} {f:Rx} {pos pos' tpos:Vo} {ta tv:TE}
end
section
variable {X:Cx} {pins:List (Addr × Tv)} {σ:St} {H:Hp} {s:PB} {A:QK} {E:Value->PB->Prop} {Q:Value->PB->Prop} {c:Value} {b:Bool}
inductive yQ (K:Qi) (H:Hp):V->Value->Prop where
 | non:yQ K H .non (.type "NoneType")
 | bl (x:Bool):yQ K H (.bl x) (.type "bool")
 | int (i:Int):yQ K H (.int i) (.type "int")
 | str (x:Rx):yQ K H (.str x) (.type "str")
 | flt (x:UInt64):yQ K H (.flt x) (.type "float")
 | lst {a:Addr} {xs:List V} (e:H a=some (.lst xs)):yQ K H (.ref a) (.type "list")
 | frz {a:Addr} {o:Tv} {xs:List V} (e:H a=some (.frz o (.lst xs))):yQ K H (.ref a) (.type "list")
 | tup {a:Addr} {xs:List V} (e:H a=some (.tup xs)):yQ K H (.ref a) (.type "tuple")
 | dK {a:Addr} {kvs:List (Key × V)} (e:H a=some (.dK kvs)):yQ K H (.ref a) (.type "dict")
 | dT {a:Addr} {kvs:List (List Key × V)} (e:H a=some (.dT kvs)):yQ K H (.ref a) (.type "dict")
 | ins {a C dx:Addr} {fs:List (Rx × V)} (e:H a=some (.ins C dx fs)) (cl:Cls K C) (ha:PySem.W.findIn K (.ref C) "__class__" = some (some (.builtin "object.__class__")))
   (hn:PySem.W.specialIn K (.builtin "object.__class__") "__get__" = some (some (.builtin "getset_descriptor.__get__"))) (htk:PySem.W.takesIn K (.builtin "object.__class__")=some true)
   (hm:PySem.W.mroIn K C (.type "object")=some true):yQ K H (.ref a) (.ref C)
theorem Bo {x:V} {u t:Value} (I:Inv X pins σ H s) (rx:RelV x u) (ty:yQ X.K H x t) (e:PySem.W.kitOne X.K t c=some b) (h:∀ tk,Q (.bool b) { s with toks:=tk }) :
  Qd (Qt X.prog X.w) A (call (.builtin "isinstance") [u,c]) Q E s:=by
 cases ty with
 | non=>cases (show u=QZ from rx); exact R5 PySem.W.kitx_none I.kIn Uy e (fun z=>nomatch z) h
 | bl y=>cases (show u=Value.bool y from rx); exact R5 PySem.W.kitx_bool I.kIn Uy e (fun z=>nomatch z) h
 | int i=>obtain⟨t,q⟩:=(show ∃ t,u=TY i t from rx); cases q; exact R5 PySem.W.kitx_int I.kIn Uy e (fun z=>nomatch z) h
 | str y=>obtain⟨t,q⟩:=(show ∃ t,u=Value.str y t from rx); cases q; exact R5 PySem.W.kitx_str I.kIn Uy e (fun z=>nomatch z) h
 | flt y=>obtain⟨t,q⟩:=(show ∃ t,u=Value.float y t from rx); cases q; exact R5 PySem.W.kitx_float I.kIn Uy e (fun z=>nomatch z) h
 | @lst a xs ea =>
  cases (show u=QS a from rx)
  obtain⟨_,_,n,_,h1⟩:=(show eF X.prog X.w H s.heap a (.lst xs) from I.hok a _ ea)
  exact R5 PySem.W.kitx_list I.kIn ⟨_,h1,rfl⟩ e (fun z=>nomatch z) h
 | @frz a ob xs ea =>
  cases (show u=QS a from rx)
  obtain⟨_,_,_,n,_,h1⟩:=(show eF X.prog X.w H s.heap a (.frz ob (.lst xs)) from I.hok a _ ea)
  exact R5 PySem.W.kitx_list I.kIn ⟨_,h1,rfl⟩ e (fun z=>nomatch z) h
 | @tup a xs ea =>
  cases (show u=QS a from rx)
  obtain⟨_,_,_,p⟩:=(show eF X.prog X.w H s.heap a (.tup xs) from I.hok a _ ea)
  obtain⟨o,h1,h2,_⟩:=p
  exact R5 PySem.W.kitx_tuple I.kIn ⟨o,h1,h2⟩ e (fun z=>nomatch z) h
 | @dK a kvs ea =>
  cases (show u=QS a from rx)
  obtain⟨_,_,vs,_,p⟩:=(show eF X.prog X.w H s.heap a (.dK kvs) from I.hok a _ ea)
  obtain⟨o,es,ep,h1,h2,_⟩:=p
  exact R5 PySem.W.kitx_dict I.kIn ⟨o,h1,h2.1⟩ e (fun z=>nomatch z) h
 | @dT a kvs ea =>
  cases (show u=QS a from rx)
  obtain⟨_,_,xs,_,o,es,ep,h1,h2,_⟩:=(show eF X.prog X.w H s.heap a (.dT kvs) from I.hok a _ ea)
  exact R5 PySem.W.kitx_dict I.kIn ⟨o,h1,h2.1⟩ e (fun z=>nomatch z) h
 | @ins a C dx fs ea cl ha hn htk hm =>
  cases (show u=QS a from rx)
  obtain⟨mA,O,_⟩:=J8 I.hok ea
  obtain⟨od,J,_⟩:=O.look
  exact R5 (PySem.W.kitx_own (cl.get _) cl.hd ha hn htk hm) I.kIn J e (fun z=>nomatch z) h
end
end L2
namespace L2
open PySem PySem.Spec PyProof.Rows
structure oF (k:Nat) (A:QK):Prop where
 hd:A.handled=none
 dp:A.depth+3 * k+5 < recursionLimit
 un:A.units+16 * k+200 < cLine
theorem oF.mono {j k:Nat} {A:QK} (r:oF k A) (h:j<=k):oF j A:=⟨r.hd,by have:=r.dp; lia,by have:=r.un; lia⟩
theorem oF.deeper {k:Nat} {A:QK} (r:oF (k+1) A) (env:Env):oF k (A.deeper env) :=
 ⟨r.hd,by have:=r.dp; show A.depth+1+3 * k+5 < _; lia,by have:=r.un; show A.units+3+16 * k+200 < _; lia⟩
theorem oF.depth {k:Nat} {A:QK} (r:oF k A):A.depth < recursionLimit:=by have:=r.dp; lia
theorem oF.nu {k:Nat} {A:QK} (r:oF k A):A.units < cLine:=by have:=r.un; lia
def LK:TA:=fun _ H Q=>Q [] H
def Ib (ta:TE) (tr:TA):TA:=fun σ H Q=>ta σ H fun x H1=>tr σ H1 fun xs H2=>Q (x::xs) H2
section
variable {X:Cx} {e:Expr} {es:List Expr} {te:TE} {t:TA} {pos:Vo}
theorem aq:PA X [] LK:=fun _ _ _ _ H Q I h=>Xx ⟨[],H,I,.nil,h⟩
theorem aa (ha:PE X e te) (hr:PA X es t) (hs:Qz (e::es) X.env=(false,Tc e X.env)::Qz es X.env:=by rfl):PA X (e::es) (Ib te t):=by
 intro pos pins s σ H Q I h
 rw[hs]
 show Qd _ _ (Ye ((false,Tc e X.env)::Uq pos (Qz es X.env))) _ _ s
 refine Xg (thn (ha pins s σ H _ I h) fun u s1 ⟨x,H1,I1,r1,q1⟩=>?_)
 exact thn (hr pos pins s1 σ H1 _ I1 q1) fun us s2 ⟨xs,H2,I2,r2,q2⟩=>⟨x::xs,H2,I2,.cons r1 r2,q2⟩
def Og (t:TA):TE:=fun σ H Q=>t σ H fun xs H1=>xs.length<=sizeLine/\∀ p,H1 p=none->Q (.ref p) (upd H1 p (.tup xs))
def Pk (t:TA):TE:=fun σ H Q=>t σ H fun xs H1=>xs.length<=sizeLine/\∀ p,H1 p=none->Q (.ref p) (upd H1 p (.lst xs))
theorem bU {x1} (h:PA X es t):PE X (.Tuple es x1 pos) (Og t):=by
 intro pins s σ H Q I hq
 refine wpAny_Tuple_spliced (thn (h pos pins s σ H _ I hq) fun us s1 ⟨xs,H1,I1,r,z,q⟩=>⟨by rw[← r.length]; exact z,?_⟩)
 have hf:H1 s1.heap.objs.size=none:=I1.hok.fresh (PX _)
 refine⟨.ref s1.heap.objs.size,upd H1 s1.heap.objs.size (.tup xs),I1.laid (t':=s1.toks) (fun b u e=>Pz _ e) (PX _) ?_,rfl,q _ hf⟩
 exact⟨z,us,r,⟨_,PN _ rfl,rfl,_,rfl⟩⟩
theorem bK (h:PA X es t):PE X (.List es pos) (Pk t):=by
 intro pins s σ H Q I hq
 refine wpAny_List_spliced (thn (h pos pins s σ H _ I hq) fun us s1 ⟨xs,H1,I1,r,z,q⟩=>⟨by rw[← r.length]; exact z,?_⟩)
 have hf:H1 s1.heap.objs.size=none:=I1.hok.fresh (PX _)
 refine⟨.ref s1.heap.objs.size,upd H1 s1.heap.objs.size (.lst xs),I1.laid (t':=s1.toks) (fun b u e=>Pz _ e) (PX _) ?_,rfl,q _ hf⟩
 exact⟨z,us,0,r,PN _ rfl⟩
end
abbrev Sp:=List V->Hp->VK->XK->Prop
abbrev CXT:=List Env->Hp->PB->XK->Value->PB->Prop
structure M7 (P:Qx) (w:QG) (K:Qi) (mg:Rx->Option Value) (base:Rb) (A:QK) (outer:List Env) (s:PB) (H:Hp):Prop where
 frames:A.frames=some outer
 mod:Mod K mg base
 bs:∀ b o,base.get? b=some o->s.heap.get? b=some o/\H b=none
 bsz:base.objs.size<=s.heap.objs.size
 zN:s.heap.FunFrames base outer
 frf:∀ b∈frs outer,H b=none
 hok:HOk P w H s.heap
 bare:WD s.gens
def CE (outer:List Env) (P:Qx) (w:QG) (H:Hp) (s:PB) (Q:VK) (u:Value) (s':PB):Prop :=
 ∃ v H',s'.os=s.os/\WD s'.gens/\Un (frs outer) [] H H' s.heap s'.heap/\HOk P w H' s'.heap/\RelV v u/\Q v H'
def CR (CX:CXT) (outer:List Env) (P:Qx) (w:QG) (H:Hp) (s:PB) (Q:VK) (E:XK) (r:Xd) (s':PB):Prop :=
 match r with
 | .ok (.ret u)=>CE outer P w H s Q u s'
 | .ok _=>False
 | .error e=>CX outer H s E e s'
structure fj (P:Qx) (w:QG) (K:Qi) (mg:Rx->Option Value) (base:Rb) (CX:CXT) (k:Nat) (f:Addr) (fd:Um) (ps:List Rx) (sp:Sp):Prop where
 len:∀ vs H Q E,sp vs H Q E->vs.length=ps.length
 run:∀ (A:QK) (outer:List Env) (s:PB) (H:Hp) (args:Args) (us:List Value) (vs:List V) (Q:VK) (E:XK),oF k A->M7 P w K mg base A outer s H->W4 s fd args (ps.zip us)->Vals vs us->sp vs H Q E →
  U0 (Qt P w) A (.call (.ref f) args) (CR CX outer P w H s Q E) s
section
variable {X:Cx} {pins:List (Addr × Tv)} {σ:St} {H:Hp} {s s':PB}
theorem Inv.env0 (I:Inv X pins σ H s):M7 X.prog X.w X.K X.mg X.base X.A X.stack s H :=
 ⟨I.ok.frames,I.ok.mod,I.bs,Q6 I.ok.bsz I.sz,I.stack,I.BW,I.hok,I.bare⟩
theorem Inv.after {Q:VK} {u:Value} (I:Inv X pins σ H s) (h:CE X.stack X.prog X.w H s Q u s'):EP X pins σ Q u s':=by
 obtain⟨v,H',os,bare,un,hok,r,q⟩:=h
 obtain⟨hh,g,d,t,os'⟩:=s'
 obtain rfl:os'=s.os:=os
 exact⟨v,H',I.call (h':=hh) (g':=g) (d':=d) (t':=t) (ch:=[]) un hok bare (fun b z=>absurd z (by simp)),r,q⟩
end
def Ls (sp:Sp) (dvs:List V) (E:XK) (t:TA):TE:=fun σ H Q=>t σ H fun vs H1=>sp (vs++dvs) H1 Q E
def Binds (K:Qi) (fd:Um) (ps:List Rx) (ds:List Value):Prop :=
 ∀ (s:PB) (us:List Value),K.In s.heap->(us++ds).length=ps.length->W4 s fd ⟨us,[]⟩ (ps.zip (us++ds))
theorem Binds.all {K:Qi} {fd:Um} {ps:List Rx} (h:∀ us:List Value,us.length=ps.length->WW fd ⟨us,[]⟩=pure (ps.zip us)):Binds K fd ps []:=fun s us _ hl=>by
 rw[SN] at hl ⊢
 exact .of_eq (h us hl)
def Passes (CX:CXT) (X:Cx) (E:XK):Prop:=∀ (pins:List (Addr × Tv)) (σ:St) (H:Hp) (s:PB) (e:Value) (s':PB),Inv X pins σ H s->CX X.stack H s E e s'->X.xe e s'
section
variable {X:Cx} {CX:CXT} {k:Nat} {f C:Addr} {fd:Um} {ps:List Rx} {sp:Sp} {dvs:List V} {ds:List Value} {E:XK} {x m:Rx} {p pos apos:Vo} {e o:Expr} {es:List Expr} {ta:TE} {t:TA}
theorem Kq {pins:List (Addr × Tv)} {σ:St} {H:Hp} {s:PB} {Q:VK} {us:List Value} {vs:List V} (F:fj X.prog X.w X.K X.mg X.base CX k f fd ps sp) (hr:oF k X.A) (hb:Binds X.K fd ps ds) (hd:Vals dvs ds) (hx:Passes CX X E)
  (I:Inv X pins σ H s) (r:Vals vs us) (h:sp (vs++dvs) H Q E):Qd (Qt X.prog X.w) X.A (call (.ref f) us) (EP X pins σ Q) X.xe s:=by
 have r2:Vals (vs++dvs) (us++ds):=r.append hd
 have hl:(us++ds).length=ps.length:=by rw[← r2.length]; exact F.len _ _ _ _ h
 refine wpAny_call (Ww (F.run X.A X.stack s H ⟨us,[]⟩ (us++ds) (vs++dvs) Q E hr I.env0 (hb s us I.kIn hl) r2 h) fun r s' hq=>?_)
 cases r with
 | error e=>exact hx pins σ H s e s' I hq
 | ok fl =>
  cases fl with
  | ret u=>exact I.after hq
  | next=>exact UJ hq
  | brk=>exact UJ hq
  | cont=>exact UJ hq
theorem Jz (F:fj X.prog X.w X.K X.mg X.base CX k f fd ps sp) (hr:oF k X.A) (hg:Gl X x) (hm:X.mg x=some (.ref f)) (hk:V6 X.K (.ref f)=true) (hb:Binds X.K fd ps ds) (hd:Vals dvs ds) (hx:Passes CX X E)
  (ha:PA X (e::es) t) (hdb:(x == ("__debug__" : Rx))=false:=by decide) (he:Qz (e::es) X.env=(false,Tc e X.env)::Qz es X.env:=by rfl) (hpl:(Uq pos (Qz es X.env)).any (·.1)=false:=by rfl) :
  PE X (.Call (.Name x p) (e::es) [] pos) (Ls sp dvs E t):=by
 intro pins s σ H Q I h
 refine Sv (Ji I hg hm ?_ hdb)
 refine PySem.W.callWith_K (h₀:=X.base) I.ok.mod.kin hk (thn (ha pos pins s σ H _ I h) fun us s1 ⟨vs,H1,I1,r,q⟩=>⟨I1.kIn,?_⟩) he hpl
 exact Kq F hr hb hd hx I1 r q
end
section
variable {X:Cx} {CX:CXT} {k:Nat} {f C:Addr} {fd:Um} {ps ks:List Rx} {sp:Sp} {E:XK} {x m:Rx} {p pos apos kpos:Vo} {e o:Expr} {es:List Expr} {kws:List Keyword} {te ta:TE} {t tk:TA} {nm:Option Rx}
variable {g:List Value->List Value->List Value} {gV:List V->List V->List V}
end
structure aW (N P:List Rx) (sc:Vi):Prop where
 kind:sc.kind = .function
 co:sc.isCoroutine=false
 gen:sc.isGenerator=false
 nd:N.Nodup
 pre:N.take P.length=P
 par:∀ x∈P,sc.names.lookup x=some .local∨sc.names.lookup x=some .cell
 nofree:∀ y∈sc.names,y.2≠.free
theorem tK {kindOf:Rx->Option V7} {x:Rx}:∀ {binds:List (Rx × Value)} {m:Rx->Option Value},(∀ v,(x,v) ∉ binds)->bindL kindOf binds m x=m x
 | [],_,_=>rfl
 | (n,v)::r,m,h=>by
  unfold bindL
  rw[tK fun w hw=>h w (Qg _ hw)]
  split
  ·have:x≠n:=by rintro rfl; exact h v Qa
   simp [this]
  ·rfl
theorem rO {kindOf:Rx->Option V7} {x:Rx}:∀ {binds:List (Rx × Value)} {m:Rx->Option Value},(∀ v,(x,v) ∉ binds)->bindC kindOf binds m x=m x
 | [],_,_=>rfl
 | (n,v)::r,m,h=>by
  unfold bindC
  rw[rO fun w hw=>h w (Qg _ hw)]
  split
  ·rfl
  ·have:x≠n:=by rintro rfl; exact h v Qa
   simp [this]
theorem rJ {kindOf:Rx->Option V7} {x:Rx} {v:Value}:∀ {P:List Rx} {vs:List Value} {i:Nat} {m:Rx->Option Value},P.Nodup->P[i]? = some x->vs[i]? = some v->kindOf x=some .local →
  bindL kindOf (P.zip vs) m x=some v
 | [],_,_,_,_,h,_,_=>by simp at h
 | _::_,[],_,_,_,_,h,_=>by simp at h
 | p::P,w::vs,0,m,nd,h1,h2,hk=>by
  simp at h1 h2; subst h1; subst h2
  show bindL kindOf ((p,w)::P.zip vs) m p=_
  unfold bindL
  rw[tK fun v hv=>(List.nodup_cons.mp nd).1 (X8 hv).1,if_pos hk]
  simp
 | p::P,w::vs,i+1,m,nd,h1,h2,hk=>by
  show bindL kindOf ((p,w)::P.zip vs) m x=_
  unfold bindL
  exact rJ (i:=i) (List.nodup_cons.mp nd).2 (by simpa using h1) (by simpa using h2) hk
theorem qU {kindOf:Rx->Option V7} {x:Rx} {v:Value}:∀ {P:List Rx} {vs:List Value} {i:Nat} {m:Rx->Option Value},P.Nodup->P[i]? = some x->vs[i]? = some v->kindOf x≠some .local →
  bindC kindOf (P.zip vs) m x=some v
 | [],_,_,_,_,h,_,_=>by simp at h
 | _::_,[],_,_,_,_,h,_=>by simp at h
 | p::P,w::vs,0,m,nd,h1,h2,hk=>by
  simp at h1 h2; subst h1; subst h2
  show bindC kindOf ((p,w)::P.zip vs) m p=_
  unfold bindC
  rw[rO fun v hv=>(List.nodup_cons.mp nd).1 (X8 hv).1,if_neg hk]
  simp
 | p::P,w::vs,i+1,m,nd,h1,h2,hk=>by
  show bindC kindOf ((p,w)::P.zip vs) m x=_
  unfold bindC
  exact qU (i:=i) (List.nodup_cons.mp nd).2 (by simpa using h1) (by simpa using h2) hk
def start (N:List Rx) (vs:List V):St:=vs.map some++Qh (N.length - vs.length) none
def Kl (CX:CXT) (P:Qx) (w:QG) (K:Qi) (mg:Rx->Option Value) (base:Rb) (N:List Rx) (qual:Rx) (scope:Vi) (f:Addr) (cd:Value) (A:QK) (outer:List Env) (s:PB) (H:Hp) (E:XK):Cx where
 prog:=P
 w:=w
 K:=K
 mg:=mg
 base:=base
 A:=A.deeper (Xb qual scope s.heap.objs.size f cd)
 N:=N
 s₀:=s
 H₀:=H
 env:=Xb qual scope s.heap.objs.size f cd
 outer:=outer
 stack:=Xb qual scope s.heap.objs.size f cd::outer
 ex:=[]
 calm:=true
 fn:=fun _=>true
 pn:=[]
 xe:=fun e s'=>Qd (Qt P w) (A.deeper (Xb qual scope s.heap.objs.size f cd)) (leaving (Xb qual scope s.heap.objs.size f cd) e) (fun _ s''=>CX outer H s E e s'') (fun e' s''=>CX outer H s E e' s'') s'
theorem wO {sc:Vi} {n:Nat} {x:Rx} (h:sc.names.lookup x=some .cell):∃ c,(cellsFrom n sc.names []).lookup x=some c:=by
 have q:=PySem.W.cellsFrom_some sc.names n [] (.inl h)
 exact Option.isSome_iff_exists.mp q
theorem Cy {CX:CXT} {P:Qx} {w:QG} {K:Qi} {mg:Rx->Option Value} {base:Rb} {N ps:List Rx} {qual:Rx} {scope:Vi} {f:Addr} {cd:Value} {A:QK} {outer:List Env} {s s1:PB} {H:Hp} {E:XK} {us:List Value} {vs:List V}
  (S:aW N ps scope) (hd:A.handled=none) (e0:M7 P w K mg base A outer s H) (hl:vs.length=ps.length) (r:Vals vs us)
  (x:InCallC s s.heap.objs.size (bindL (Xb qual scope s.heap.objs.size f cd).kindOf (ps.zip us) fun _=>none) (cellsFrom (s.heap.objs.size+1) scope.names []) (bindC (Xb qual scope s.heap.objs.size f cd).kindOf (ps.zip us) fun _=>none) s1) :
  Inv (Kl CX P w K mg base N qual scope f cd A outer s H E) [] (start N vs) H s1:=by
 have hpl:ps.length<=N.length:=by have:=congrArg Vz S.pre; rw[Ql] at this; lia
 obtain⟨h1,tk,rfl,hk⟩:=x.done
 have noA:∀ b:Addr,b ∉ (Kl CX P w K mg base N qual scope f cd A outer s H E).ex:=fun b z=>absurd (show b∈([]:List Addr) from z) (by simp)
 refine⟨⟨e0.mod,S.kind,rfl,rfl,PX _,fun y z c h1 h2=>?_,fun y hy=>?_,fun y c _ h=>?_,fun _=>hd,Around.frames_deeper e0.frames,.inr ⟨rfl,rfl⟩,fun b z=>absurd z (noA b),e0.bs,e0.bsz,fun b _ _=>noA b,fun b z=>absurd z (noA b),e0.zN,e0.frf⟩,
  rfl,e0.bare,Un.kept hk,⟨_,x.toInCall.ns,fun i y v h1 h2 h3=>?_⟩,fun y c h=>⟨_,x.cell y c h⟩,e0.hok.fresh (PX _),fun y c h=>?_,fun p hp=>absurd (show p∈([]:List (Addr × Tv)) from hp) (by simp),e0.hok.kept hk,?_⟩
 ·exact name_of_addr x.apart (RV h1) (RV h2)
 ·have hy:scope.names.lookup y=some .cell∨scope.names.lookup y=some .free:=hy
  rcases hy with hy | hy
  ·exact wO hy
  ·exact absurd rfl (S.nofree _ (RV hy))
 ·exact U3 (x.above y c (RV h))
 ·have hi:i < vs.length:=by
   unfold start at h2
   by_cases hi:i < vs.length
   ·exact hi
   ·rw[V9 (by simpa using hi)] at h2
    rw[T9] at h2
    split at h2 <;> cases h2
  have ha:vs[i]? = some v:=by
   unfold start at h2
   rw[List.getElem?_append_left (by simpa using hi),Qn] at h2
   cases e:vs[i]? with
   | none=>rw[e] at h2; cases h2
   | some a=>rw[e] at h2; cases h2; rfl
  obtain⟨u,hu,rv⟩:=r.get ha
  have hp:ps[i]? = some y:=by
   rw[← S.pre,List.getElem?_take_of_lt (by lia)]; exact h1
  have ndP:ps.Nodup:=by rw[← S.pre]; exact S.nd.sublist (List.take_sublist _ _)
  refine⟨u,rv,?_⟩
  rcases S.par y (Qy hp) with k | k
  ·exact .inl ⟨k,rJ ndP hp hu k⟩
  ·obtain⟨c,e⟩:=wO (n:=s.heap.objs.size+1) k
   refine .inr ⟨.inl k,c,e,?_⟩
   have q:=x.cell y c e
   rw[qU ndP hp hu (by show scope.names.lookup y≠_; rw[k]; decide)] at q
   exact q
 ·exact e0.hok.fresh (U3 (x.above y c (RV h)))
 ·unfold start
  show _=N.length
  rw[Qj,Py,Rj]
  lia
theorem Ob {CX:CXT} {P:Qx} {w:QG} {K:Qi} {mg:Rx->Option Value} {base:Rb} {k:Nat} {f:Addr} {name qual:Rx} {params:Arguments} {body:List Stmt} {scope:Vi} {dV kV doc pm cdv ct oc:Value} {an od:Option Addr}
  {osl:Array (Option Value)} {N ps:List Rx} {sp:Sp} (lk:K.lookup f=some ⟨oc,od,.func (Vj name qual params body scope dV kV doc pm an cdv ct),osl⟩) (hcd:WX K cdv qual=true) (S:aW N ps scope)
  (len:∀ vs H Q E,sp vs H Q E->vs.length=ps.length)
  (hbody:∀ (A:QK) (outer:List Env) (s:PB) (H:Hp) (vs:List V) (Q:VK) (E:XK),oF k (A.deeper (Xb qual scope s.heap.objs.size f cdv))->sp vs H Q E →
   ∃ t,PSs (Kl CX P w K mg base N qual scope f cdv A outer s H E) body t/\t { nx:=fun _ H'=>Q .non H',rt:=Q } (start N vs) H) :
  fj P w K mg base CX (k+1) f (Vj name qual params body scope dV kV doc pm an cdv ct) ps sp:=by
 refine⟨len,fun A outer s H args us vs Q E hr e0 hb r hsp=>?_⟩
 have hl:=len _ _ _ _ hsp
 have KX:K.In s.heap:=e0.mod.kin.keeps fun b o e=>(e0.bs b o e).1
 have lim:s.heap.NoLimit:=e0.mod.nolimit.keeps fun b o e=>(e0.bs b o e).1
 have hkind:∀ y∈ps.zip us,scope.names.lookup y.1=some .local∨(scope.names.lookup y.1=some .cell/\((cellsFrom (s.heap.objs.size+1) scope.names []).lookup y.1).isSome=true):=fun⟨n,v⟩ hy=>by
  rcases S.par n (X8 hy).1 with q | q
  ·exact .inl q
  ·exact .inr ⟨q,PySem.W.cellsFrom_some _ _ _ (.inl q)⟩
 refine codeAny_call_function hr.depth (KX _ _ lk) rfl S.co S.gen rfl (PySem.W.codeRec_of KX hcd) (hb _ _ _ _ ?_)
 refine wpAny_newFunctionEnv_cells S.kind hkind fun env he s1 x=>?_
 subst he
 refine⟨lim.keeps x.toInCall.keep,codeAny_func ?_⟩
 obtain⟨t,ht,hq⟩:=hbody A outer s H vs Q E (hr.deeper _) hsp
 have I:Inv (Kl CX P w K mg base N qual scope f cdv A outer s H E) [] (start N vs) H s1:=Cy S hr.hd e0 hl r x
 refine SJ (ht [] s1 (start N vs) H _ I hq) (fun fl s' hs=>?_) fun e s' hs=>hs
 have fin:∀ {σ':St} {H':Hp} {v:V} {u:Value},Inv (Kl CX P w K mg base N qual scope f cdv A outer s H E) [] σ' H' s'->RelV v u->Q v H'->CE outer P w H s Q u s' :=
  fun {σ' H' v u} J rv q=>⟨v,H',J.os,J.bare,J.base,J.hok,rv,q⟩
 cases fl with
 | ret u =>
  obtain⟨v,σ',H',J,rv,q⟩:=hs
  exact fin J rv q
 | next =>
  obtain⟨σ',H',J,q⟩:=hs
  exact fin (v:=V.non) (u:=QZ) J rfl q
 | brk =>
  obtain⟨_,_,_,q⟩:=hs
  exact UJ q
 | cont =>
  obtain⟨_,_,_,q⟩:=hs
  exact UJ q
end L2
namespace L2
open PySem PySem.Spec PyProof.Rows
section
variable {X:Cx} {x:Rx} {p pos:Vo} {e:Expr} {es:List Expr} {t:TA} {id T:String} {r:List V->Hp->VK->Prop}
def tCB (r:List V->Hp->VK->Prop) (t:TA):TE:=fun σ H Q=>t σ H fun vs H1=>r vs H1 Q
theorem aL (hc:iy X (.builtin id) r) (hg:Gl X x) (hm:X.mg x=none) (hv:Q5 x=some (.builtin id)) (ha:PA X (e::es) t) (hn:x≠"__name__":=by decide) (hdb:(x == ("__debug__" : Rx))=false:=by decide)
  (he:Qz (e::es) X.env=(false,Tc e X.env)::Qz es X.env:=by rfl) (hpl:(Uq pos (Qz es X.env)).any (·.1)=false:=by rfl):PE X (.Call (.Name x p) (e::es) [] pos) (tCB r t):=by
 intro pins s σ H Q I h
 refine Sv (fU I hg hm hv ?_ hn hdb)
 exact XN (thn (ha pos pins s σ H _ I h) fun us s1 ⟨vs,H1,I1,r1,q1⟩=>hc pins s1 σ H1 vs us Q I1 r1 q1) he hpl
theorem bG (hc:iy X (.type T) r) (hg:Gl X x) (hm:X.mg x=none) (hv:Q5 x=some (.type T)) (ha:PA X (e::es) t) (hn:x≠"__name__":=by decide) (hdb:(x == ("__debug__" : Rx))=false:=by decide)
  (he:Qz (e::es) X.env=(false,Tc e X.env)::Qz es X.env:=by rfl) (hpl:(Uq pos (Qz es X.env)).any (·.1)=false:=by rfl):PE X (.Call (.Name x p) (e::es) [] pos) (tCB r t):=by
 intro pins s σ H Q I h
 refine Sv (fU I hg hm hv ?_ hn hdb)
 exact Q9 (thn (ha pos pins s σ H _ I h) fun us s1 ⟨vs,H1,I1,r1,q1⟩=>hc pins s1 σ H1 vs us Q I1 r1 q1) he hpl
end
end L2
namespace HT
open PySem PyProof.Rows
def lexLt:List Int->List Int->Bool
 | [],[]=>false
 | [],_::_=>true
 | _::_,[]=>false
 | x::xs,y::ys=>if x=y then lexLt xs ys else decide (x < y)
theorem iK (x y:Int) (xs ys:List Int):lexLt (x::xs) (y::ys)=if x=y then lexLt xs ys else decide (x < y):=rfl
theorem oK (y:Int) (ys:List Int):lexLt [] (y::ys)=true:=rfl
theorem oA (x:Int) (xs:List Int):lexLt (x::xs) []=false:=rfl
section
open PySem.SeqAt
open PySem.AutoSeq1 (wpAny_loadPart')
open PySem.MeetsSeq PySem.MeetsSeq2 PySem.MeetsSeq3
end
section
variable {prog:Qx} {w:QG} {A:QK} {E:Value->PB->Prop} {s:PB}
theorem Ip {t b:Addr} {vs ws:List Value} {Q:Value->PB->Prop} (ht:IsTup s.heap t vs.toArray) (hb:IsTup s.heap b ws.toArray) (hv:vs≠[])
  (h1:ws=[]->Q (.ref t) s) (h2:ws≠[]->Q (.ref s.heap.objs.size) { s with heap:=s.heap.push { cls:=.type "tuple",data:=.seq (vs++ws).toArray } })
  (hsz:vs.length+ws.length<=sizeLine):Qd (Qt prog w) A (Ux .Add (.ref t) (.ref b)) Q E s:=by
 obtain⟨⟨cls,dd,data,sl⟩,ho,hc,n,hd⟩:=id ht
 obtain⟨⟨cls2,dd2,data2,sl2⟩,ho2,hc2,n2,hd2⟩:=id hb
 simp only at hc hd hc2 hd2
 subst hc hd hc2 hd2
 have e:vs.toArray++ws.toArray=(vs++ws).toArray:=by simp
 by_cases hw:ws=[]
 ·exact concat_meets ⟨_,ho,rfl⟩ ⟨_,ho2,rfl⟩ XH seq_tuple_add Wy Wq (Wj _ _)
   (tuple_addW1 t b vs.toArray ws.toArray n n2 dd dd2 sl sl2 (by simpa using hv) (by simp [hw])) ⟨ho,ho2,h1 hw⟩
 ·refine concat_meets ⟨_,ho,rfl⟩ ⟨_,ho2,rfl⟩ XH seq_tuple_add Wy Wq (Wj _ _)
   (tuple_addW2 t b vs.toArray ws.toArray n n2 dd dd2 sl sl2 (by simpa using hv) (by simpa using hw) (by rw[Qe,Qe]; exact hsz)) ⟨ho,ho2,?_⟩
  rw[e]
  exact h2 hw
def sIx (n d:Nat):Option Int->Nat
 | none=>d
 | some v=>if v < 0 then (v+(n:Int)).toNat else min v.toNat n
theorem Lf (n d:Nat) (hd:d<=n) (o:Option Int):sIx n d o<=n:=by
 cases o with
 | none=>exact hd
 | some v =>
  show (if v < 0 then (v+(n:Int)).toNat else min v.toNat n)<=n
  by_cases hv:v < 0
  ·rw[if_pos hv]; lia
  ·rw[if_neg hv]; exact Nat.min_le_right _ _
theorem Du (v:Int) (n d:Nat):(if v < 0 then max (v+(n:Int)) 0 else min v (n:Int))=((sIx n d (some v):Nat):Int):=by
 show (if v < 0 then max (v+(n:Int)) 0 else min v (n:Int))=(((if v < 0 then (v+(n:Int)).toNat else min v.toNat n):Nat):Int)
 by_cases hv:v < 0
 ·simp only[if_pos hv]; lia
 ·simp only[if_neg hv]; lia
theorem yd (lo hi:Option Int) (n:Nat):Wd lo hi 1 (n:Int)=(((sIx n 0 lo:Nat):Int),((sIx n n hi:Nat):Int)):=by
 have h1:¬ ((1:Int) < 0):=by lia
 unfold Wd
 simp only[h1,if_false]
 refine Prod.ext ?_ ?_
 ·cases lo with
  | none=>rfl
  | some v=>exact Du v n 0
 ·cases hi with
  | none=>rfl
  | some v=>exact Du v n n
theorem yF (i j:Nat):U6 (i:Int) (j:Int) 1=j - i:=by
 unfold U6
 have h1:(1:Int) > 0:=by lia
 simp only[h1,if_true,Int.ediv_one]
 split <;> lia
theorem pA {v:Value} {o:Option Int} {Q:Option Int->PB->Prop} (p:XR v o) (h:Q o s):Qd (Qt prog w) A (Builtin.Slice.slicePartIndex v) Q E s:=by
 cases p with
 | none=>exact slicePart_none h
 | int i t=>exact slicePart_int h
theorem lU {sl:Addr} {vl vu:Value} {lo hi:Option Int} {n:Nat} {Q:Int × Int × Nat->PB->Prop} (hs:s.heap.IsSliceOf sl vl vu .none) (pl:XR vl lo) (pu:XR vu hi)
  (h:Q (((sIx n 0 lo:Nat):Int),1,sIx n n hi - sIx n 0 lo) s):Qd (Qt prog w) A (Builtin.Slice.sliceApplied (.ref sl) (pure (n:Int))) Q E s:=by
 obtain⟨os,hos,hcs,hds⟩:=id hs
 unfold Builtin.Slice.sliceApplied Builtin.Slice.sliceFields
 refine Px (Px (QX hos hds (x:=vl) rfl (Px (QX hos hds (x:=vu) rfl (Px (QX hos hds (x:=.none) rfl (PK ?_)))))))
 refine Px (slicePart_none ?_)
 show Qd _ _ (if ((1:Int) == 0)=true then _ else _) _ _ s
 rw[if_neg (by decide)]
 refine Px (pA pl (Px (pA pu (Px (PK ?_)))))
 show Qd _ _ (match Wd lo hi 1 (n:Int) with | (lo,hi)=>pure (lo,(1:Int),U6 lo hi 1)) _ _ s
 rw[yd lo hi n]
 show Qd _ _ (pure (((sIx n 0 lo:Nat):Int),(1:Int),U6 ((sIx n 0 lo:Nat):Int) ((sIx n n hi:Nat):Int) 1)) _ _ s
 rw[yF]
 exact PK h
theorem El (xs:Array Value) (i k:Nat):((P0 k).filterMap fun (m:Nat)=>xs[((i:Int)+(m:Int) * 1).toNat]?).toArray=((xs.toList.drop i).take k).toArray:=by
 have e:(fun (m:Nat)=>xs[((i:Int)+(m:Int) * 1).toNat]?)=fun m=>xs[i+m]?:=by
  funext m
  have:((i:Int)+(m:Int) * 1).toNat=i+m:=by lia
  rw[this]
 rw[e]
 have:=pick_run xs i k
 rw[List.filterMap_map] at this
 have e2:((fun x=>xs[x]?) ∘ fun x=>i+x)=fun m=>xs[i+m]?:=rfl
 rw[e2] at this
 rw[this]
theorem jY {t sl:Addr} {items:Array Value} {vl vu:Value} {lo hi:Option Int} {Q:Value->PB->Prop} (ht:IsTup s.heap t items) (hs:s.heap.IsSliceOf sl vl vu .none) (pl:XR vl lo) (pu:XR vu hi)
  (hw:¬ (sIx items.size 0 lo=0/\sIx items.size items.size hi=items.size))
  (h:Q (.ref s.heap.objs.size) { s with heap:=s.heap.push { cls:=.type "tuple",data:=.seq ((items.toList.drop (sIx items.size 0 lo)).take (sIx items.size items.size hi - sIx items.size 0 lo)).toArray } })
  (hsz:items.size<=sizeLine):Qd (Qt prog w) A (W3 (.ref t) (.ref sl)) Q E s:=by
 have htake:sizeOk (.seq ((items.toList.drop (sIx items.size 0 lo)).take (sIx items.size items.size hi - sIx items.size 0 lo)).toArray):=by
  show ((items.toList.drop (sIx items.size 0 lo)).take (sIx items.size items.size hi - sIx items.size 0 lo)).toArray.size<=sizeLine
  rw[Qe,Ql,Ws,Qw]
  lia
 have hj:sIx items.size items.size hi<=items.size:=Lf _ _ (PX _) hi
 obtain⟨os,hos,hcs,hds⟩:=id hs
 have hTs:s.TypeIs (.ref sl) "slice":=⟨os,hos,hcs⟩
 unfold W3
 try with_reducible refine S6 ?_
 first | refine Px (PK ?_) | skip
 refine Px (wpAny_sequenceKey ht.typeIs (by decide) ?_)
 refine Px (Q3 (name:=Sg "__getitem__") ht.typeIs Xy
  (Ra Xy ht.typeIs entry_tuple_getitem ?_ (args_tuple_getitem _ _)))
 show Qd _ _ (Builtin.Tuple.tupleItemsOf (.ref t) >>= _) _ _ s
 refine Px (tupleItemsOf_ ht ?_)
 refine Px (wpAny_typeOf hTs ?_)
 rw[if_pos (by decide)]
 refine Px (lU hs pl pu ?_)
 have hno:¬ ((((sIx items.size 0 lo:Nat):Int) == 0 && (1:Int) == 1 && (sIx items.size items.size hi - sIx items.size 0 lo) == items.size)=true):=by
  intro q
  rw[Rz,Rz] at q
  have q1:((sIx items.size 0 lo:Nat):Int)=0:=eq_of_beq q.1.1
  have q2:sIx items.size items.size hi - sIx items.size 0 lo=items.size:=eq_of_beq q.2
  exact hw ⟨by lia,by lia⟩
 show Qd _ _ (if (((sIx items.size 0 lo:Nat):Int) == 0 && (1:Int) == 1 && (sIx items.size items.size hi - sIx items.size 0 lo) == items.size)=true then _ else _) _ _ s
 rw[if_neg hno,El]
 first
  | exact Px (m:=U9 _) (QL (PK ⟨_,rfl,PK h⟩) htake)
  | exact Px (m:=U9 _) (QL (Px (PK (PK ⟨_,rfl,PK h⟩))) htake)
  | exact Px (Px (m:=U9 _) (QL (PK (PK ⟨_,rfl,PK h⟩)) htake))
  | exact Px (Px (m:=U9 _) (QL (PK ⟨_,rfl,PK h⟩) htake))
end
end HT
namespace L2
open PySem PySem.Spec PyProof.Rows
abbrev TO:=St->Hp->(Option Int->Hp->Prop)->Prop
def PO (X:Cx) (e:Option Expr) (t:TO):Prop :=
 ∀ (pins:List (Addr × Tv)) (s:PB) (σ:St) (H:Hp) (Q:Option Int->Hp->Prop),Inv X pins σ H s->t σ H Q →
  Qd (Qt X.prog X.w) X.A (evalPart e X.env) (fun u s'=>∃ o H',Inv X pins σ H' s'/\XR u o/\Q o H') X.xe s
def J6:TO:=fun _ H Q=>Q none H
def NQ (t:TE):TO:=fun σ H Q=>t σ H fun x H1=>∃ i,x = .int i/\Q (some i) H1
theorem intsAre_of {ns:List Int}:∀ {us:List Value},Vals (ns.map V.int) us->Rh us ns:=by
 induction ns with
 | nil=>intro us r; rw[Vk] at r; cases r; exact .nil
 | cons n ns ih =>
  intro us r
  rw[QM] at r
  cases r with
  | cons r1 r2 =>
   obtain⟨t,e⟩:=r1
   subst e
   exact .cons n t (ih r2)
section
variable {X:Cx} {e:Expr} {te:TE} {lo hi:Option Expr} {tl th:TO} {pos p2:Vo}
theorem Cd:PO X none J6:=by
 intro pins s σ H Q I h
 rw[evalPart_none]
 exact PK ⟨none,H,I,.none,h⟩
theorem Ck (h:PE X e te):PO X (some e) (NQ te):=by
 intro pins s σ H Q I hw
 rw[evalPart_some]
 refine thn (h pins s σ H _ I hw) fun u s1 ⟨x,H1,I1,r1,q1⟩=>?_
 obtain⟨i,rfl,q⟩:=q1
 obtain⟨t,rfl⟩:=r1
 exact⟨some i,H1,I1,.int i t,q⟩
def SlR (X:Cx) (r:V->Option Int->Option Int->Hp->VK->Prop):Prop :=
 ∀ (pins:List (Addr × Tv)) (s:PB) (σ:St) (H:Hp) (x:V) (v vl vu:Value) (lo hi:Option Int) (sl:Addr) (Q:VK),Inv X pins σ H s->RelV x v->s.heap.IsSliceOf sl vl vu .none->XR vl lo->XR vu hi->r x lo hi H Q →
  ∃ T id,typeLookup (.type T) "__getitem__" = pure (some (.builtin id))/\s.TypeIs v T/\Qd (Qt X.prog X.w) X.A (W3 v (.ref sl)) (EP X pins σ Q) X.xe s
def tSl (r:V->Option Int->Option Int->Hp->VK->Prop) (te:TE) (tl th:TO):TE:=fun σ H Q=>te σ H fun x H1=>tl σ H1 fun l H2=>th σ H2 fun u H3=>r x l u H3 Q
theorem xU {r:V->Option Int->Option Int->Hp->VK->Prop} (hr:SlR X r) (he:PE X e te) (hl:PO X lo tl) (hu:PO X hi th):PE X (.Subscript e (.Slice lo hi none p2) pos) (tSl r te tl th):=by
 intro pins s σ H Q I h
 refine Subscript_ (thn (he pins s σ H _ I h) fun v s1 ⟨x,H1,I1,r1,q1⟩=>?_)
 refine wpAny_Slice (thn (hl pins s1 σ H1 _ I1 q1) fun vl s2 ⟨l,H2,I2,pl,q2⟩=>thn (hu pins s2 σ H2 _ I2 q2) fun vu s3 ⟨u,H3,I3,pu,q3⟩=>?_)
 rw[evalPart_none]
 refine PK ?_
 have I4:Inv X pins σ H3 { s3 with heap:=s3.heap.push { cls:=.type "slice",data:=.fields #[vl,vu,.none] } }:=I3.kept (t':=s3.toks) fun b ob q=>Pz _ q
 obtain⟨T,id,hT,ht,hg⟩:=hr pins { s3 with heap:=s3.heap.push { cls:=.type "slice",data:=.fields #[vl,vu,.none] } } σ H3 x v vl vu l u s3.heap.objs.size Q I4 r1 (Heap.IsSliceOf.new ..) pl pu q3
 show Qd (Qt X.prog X.w) X.A (subscriptTail e (.Slice lo hi none p2) v (.ref s3.heap.objs.size)) (EP X pins σ Q) X.xe { s3 with heap:=s3.heap.push { cls:=.type "slice",data:=.fields #[vl,vu,.none] } }
 exact tail_any (ops:=[.ref s3.heap.objs.size,v]) ht hT hg (by with_unfolding_all rfl)
def Dv (xs:List V) (lo hi:Option Int):List V:=(xs.drop (HT.sIx xs.length 0 lo)).take (HT.sIx xs.length xs.length hi - HT.sIx xs.length 0 lo)
theorem m5 (xs:List V) (lo hi:Option Int):(Dv xs lo hi).length<=xs.length:=by
 unfold Dv
 rw[Ql,Ws]
 lia
inductive Ks (K:Qi) (x:V) (lo:Option Int) (hi:Option Int) (H:Hp) (Q:VK):Prop where
 | mk (a:Addr) (xs:List V) (z0:x = .ref a) (z1:SqT K H a xs) (z2:¬ (HT.sIx xs.length 0 lo=0/\HT.sIx xs.length xs.length hi=xs.length)) (z3:∀ p,H p=none->Q (.ref p) (upd H p (.tup (Dv xs lo hi)))):Ks K x lo hi H Q
def Ol (K:Qi):V->Option Int->Option Int->Hp->VK->Prop:=fun x lo hi H Q=>Ks K x lo hi H Q
theorem Kw:SlR X (Ol X.K):=by
 intro pins s σ H x v vl vu lo hi sl Q I rx hs pl pu h
 obtain⟨a,xs,rfl,hx,hw,q⟩:=h
 cases rx
 obtain⟨its,r,ht,hz⟩:=I.tuple hx
 have hlen:its.toArray.size=xs.length:=by rw[Qe]; exact r.length.symm
 refine⟨"tuple",_,PyProof.Rows.slot_tuple_getitem.lookup,ht.typeIs,?_⟩
 refine HT.jY ht hs pl pu (by rw[hlen]; exact hw) ?_ (by rw[hlen]; exact hz)
 rw[hlen]
 refine⟨.ref s.heap.objs.size,_,I.laid (t':=s.toks) (o:=.tup (Dv xs lo hi)) (fun b ob q=>Pz _ q) (PX _) ?_,rfl,q _ (I.hok.fresh (PX _))⟩
 exact⟨Q6 (m5 xs lo hi) hz,_,(r.drop (HT.sIx xs.length 0 lo)).take (HT.sIx xs.length xs.length hi - HT.sIx xs.length 0 lo),IsTup.new _ _⟩
def N7 (K:Qi):R2:=fun x y H Q=>∃ a b xs ys,x = .ref a/\y = .ref b/\SqT K H a xs/\SqT K H b ys/\xs≠[]/\xs.length+ys.length<=sizeLine ∧
 (ys=[]->Q (.ref a) H)/\(ys≠[]->∀ p,H p=none->Q (.ref p) (upd H p (.tup (xs++ys))))
theorem Vals.pK {xs:List V} {us:List Value} (r:Vals xs us):us=[] ↔ xs=[]:=by
 cases r with
 | nil=>simp
 | cons _ _=>simp
theorem Jt:OpR X (Ux .Add) (N7 X.K):=by
 intro pins s σ H x y v u Q I rx ry h
 obtain⟨a,b,xs,ys,rfl,rfl,ha,hb,hx,hz,q1,q2⟩:=h
 cases rx
 cases ry
 obtain⟨its,r1,p1,_⟩:=I.tuple ha
 obtain⟨its2,r2,p2,_⟩:=I.tuple hb
 refine HT.Ip p1 p2 (fun z=>hx (r1.pK.mp z)) (fun z=>⟨.ref a,H,I,rfl,q1 (r2.pK.mp z)⟩) (fun z=>?_) (by rw[← r1.length,← r2.length]; exact hz)
 refine⟨.ref s.heap.objs.size,_,I.laid (t':=s.toks) (o:=.tup (xs++ys)) (fun b ob q=>Pz _ q) (PX _) ?_,rfl,q2 (fun w=>z (r2.pK.mpr w)) _ (I.hok.fresh (PX _))⟩
 exact⟨by rw[Qj]; exact hz,_,r1.append r2,IsTup.new _ _⟩
end
end L2
namespace L2
open PySem PySem.Spec PyProof.Rows
def ixN (n:Nat) (i:Int):Option Nat:=if 0<=i then (if i < n then some i.toNat else none) else if -(n:Int)<=i then some (i+n).toNat else none
def atI {α:Type} (xs:List α) (i:Int):Option α:=(ixN xs.length i).bind fun j=>xs[j]?
theorem Ij {n:Nat} {i:Int} {j:Nat} (h:ixN n i=some j):XF i n=some j/\j < n/\-(n:Int)<=i/\i < n:=by
 unfold ixN at h
 by_cases h0:0<=i
 ·rw[if_pos h0] at h
  by_cases h1:i < n
  ·rw[if_pos h1] at h
   have e:i.toNat=j:=QJ h
   exact⟨by rw[seqIndex_of h0 h1,e],by lia,by lia,h1⟩
  ·rw[if_neg h1] at h; cases h
 ·rw[if_neg h0] at h
  by_cases h1 : -(n:Int)<=i
  ·rw[if_pos h1] at h
   have e:(i+n).toNat=j:=QJ h
   exact⟨by rw[seqIndex_neg (by lia) h1,e],by lia,h1,by lia⟩
  ·rw[if_neg h1] at h; cases h
theorem uL {α:Type} {xs:List α} {i:Int} {v:α} (h:atI xs i=some v):∃ j,XF i xs.length=some j/\xs[j]? = some v/\j < xs.length/\-(xs.length:Int)<=i/\i < xs.length:=by
 unfold atI at h
 cases e:ixN xs.length i with
 | none=>rw[e] at h; cases h
 | some j =>
  rw[e] at h
  obtain⟨h1,h2,h3,h4⟩:=Ij e
  exact⟨j,h1,h,h2,h3,h4⟩
theorem iG {α:Type} {xs:List α} {j:Nat} {v:α} (h:xs[j]? = some v):atI xs (j:Int)=some v:=by
 have hj:j < xs.length:=(List.getElem?_eq_some_iff.mp h).1
 have e:ixN xs.length (j:Int)=some j:=by
  unfold ixN
  rw[if_pos (by lia),if_pos (by lia)]; simp
 unfold atI; rw[e]; exact h
theorem Eo {α:Type} (xs:List α) (v:α):atI (xs++[v]) (-1)=some v:=by
 have hl:(xs++[v]).length=xs.length+1:=by simp
 have e:ixN (xs++[v]).length (-1)=some xs.length:=by
  unfold ixN
  rw[hl,if_neg (by decide),if_pos (by lia)]
  congr 1
  lia
 unfold atI
 rw[e]
 show (xs++[v])[xs.length]? = some v
 simp
def Il (b:Expr):Prop:=∀ o i,X4 b false o i=operate [o,i] (W3 o i)
def IxR (X:Cx) (r:R2):Prop :=
 ∀ (value slice:Expr) (pins:List (Addr × Tv)) (s:PB) (σ:St) (H:Hp) (x y:V) (v u:Value) (Q:VK),Inv X pins σ H s->RelV x v->RelV y u->r x y H Q →
  X4 slice false v u=operate [v,u] (W3 v u)->Qd (Qt X.prog X.w) X.A (subscriptTail value slice v u) (EP X pins σ Q) X.xe s
def MtR (X:Cx) (id:String) (r:V->List V->Hp->VK->Prop):Prop :=
 ∀ (pins:List (Addr × Tv)) (s:PB) (σ:St) (H:Hp) (x:V) (xs:List V) (v:Value) (us:List Value) (Q:VK),Inv X pins σ H s->RelV x v->Vals xs us->r x xs H Q →
  Qd (Qt X.prog X.w) X.A (call (.builtin id) (v::us)) (EP X pins σ Q) X.xe s
section
variable {X:Cx} {a b:Expr} {ta tb:TE} {pos:Vo}
theorem IxR.or {r r':R2} (h:IxR X r) (h':IxR X r'):IxR X (fun x y H Q=>r x y H Q∨r' x y H Q):=by
 intro value slice pins s σ H x y v u Q I rx ry q hs
 rcases q with q | q
 ·exact h value slice pins s σ H x y v u Q I rx ry q hs
 ·exact h' value slice pins s σ H x y v u Q I rx ry q hs
theorem bh {r:R2} (hr:IxR X r) (ha:PE X a ta) (hb:PE X b tb) (hs:Il b):PE X (.Subscript a b pos) (tOp r ta tb):=by
 intro pins s σ H Q I h
 exact Subscript_ (Nx ha hb I h fun v u s2 x y H2 I2 rx ry q=>hr a b pins s2 σ H2 x y v u Q I2 rx ry q (hs _ _))
inductive MN (K:Qi) (x:V) (y:V) (H:Hp) (Q:VK):Prop where
 | mk (p:Addr) (xs:List V) (i:Int) (v:V) (z0:x = .ref p) (z1:y = .int i) (z2:SqL K H p xs) (z3:atI xs i=some v) (z4:Q v H):MN K x y H Q
def gq (K:Qi):R2:=fun x y H Q=>MN K x y H Q
inductive K8 (K:Qi) (x:V) (y:V) (H:Hp) (Q:VK):Prop where
 | mk (p:Addr) (xs:List V) (i:Int) (v:V) (z0:x = .ref p) (z1:y = .int i) (z2:SqT K H p xs) (z3:atI xs i=some v) (z4:Q v H):K8 K x y H Q
def jP (K:Qi):R2:=fun x y H Q=>K8 K x y H Q
def Oj:R2:=fun x y H Q=>∃ z i c,x = .str z/\y = .int i/\z.length<=sizeLine/\atI z.cps.toList i=some c/\Q (.str ⟨#[c]⟩) H
theorem aQ:IxR X (gq X.K):=by
 intro value slice pins s σ H x y v u Q I rx ry h hs
 obtain⟨p,xs,i,z,rfl,rfl,hq,he,q⟩:=h
 cases rx
 obtain⟨t,rfl⟩:=ry
 obtain⟨its,r,pl,hz⟩:=I.list hq
 obtain⟨j,h1,h2,h3,h4,h5⟩:=uL he
 obtain⟨w,ew,rw'⟩:=r.get h2
 have hl:=r.length
 have hn:=rE
 have fin:EP X pins σ Q w s:=⟨z,H,I,rw',q⟩
 by_cases h0:0<=i
 ·have hj:i.toNat=j:=by
   rw[seqIndex_of h0 h5] at h1
   exact QJ h1
  exact item_listR pl.isList h0 (by lia) (by rw[hj]; simpa using ew) fin hs
 ·have hj:(i+(its.toArray.size:Int)).toNat=j:=by
   rw[seqIndex_neg (by lia) h4] at h1
   rw[Qe,← hl]
   exact QJ h1
  exact subscriptTail_builtinR (x:=w) pl.isList.typeIs slot_list_getitem.lookup
   (wpAny_getItem_list_neg (Q:=fun r s'=>r=w/\EP X pins σ Q r s') pl.isList (by lia) (by rw[Qe] <;> lia) (by lia) (by rw[hj]; simpa using ew) ⟨rfl,fin⟩) hs
theorem bW:IxR X (jP X.K):=by
 intro value slice pins s σ H x y v u Q I rx ry h hs
 obtain⟨p,xs,i,z,rfl,rfl,hq,he,q⟩:=h
 cases rx
 obtain⟨t,rfl⟩:=ry
 obtain⟨its,r,pl,hz⟩:=I.tuple hq
 obtain⟨j,h1,h2,h3,h4,h5⟩:=uL he
 obtain⟨w,ew,rw'⟩:=r.get h2
 have hl:=r.length
 have hn:=rE
 have fin:EP X pins σ Q w s:=⟨z,H,I,rw',q⟩
 exact subscriptTail_builtinR (x:=w) pl.typeIs slot_tuple_getitem.lookup
  (getItem_tuple (j:=j) (Q:=fun r s'=>r=w/\EP X pins σ Q r s') pl (by lia) (by lia) (by rw[Qe,← hl]; exact h1) (by simpa using ew) ⟨rfl,fin⟩) hs
theorem Ln:IxR X Oj:=by
 intro value slice pins s σ H x y v u Q I rx ry h hs
 obtain⟨z,i,c,rfl,rfl,hz,he,q⟩:=h
 obtain⟨t,rfl⟩:=rx
 obtain⟨t',rfl⟩:=ry
 obtain⟨j,h1,h2,h3,h4,h5⟩:=uL he
 have hl:z.cps.toList.length=z.length:=by simp [Str.length]
 rw[hl] at h1 h4 h5
 have hn:=rE
 exact tail_any (typeIs_str s z t) slot_str_getitem.lookup (getItem_str (c:=c) (by
  have e1:decide (i < -(2 ^ 63:Int))=false:=decide_eq_false (by lia)
  have e2:decide (i ≥ 2 ^ 63)=false:=decide_eq_false (by lia)
  rw[e1,e2,Bool.or_false]) (by rw[h1]; simpa using h2) ⟨.str ⟨#[c]⟩,H,I.tok _,⟨_,rfl⟩,q⟩) hs
def rIx (K:Qi):R2:=fun x y H Q=>gq K x y H Q∨jP K x y H Q∨Oj x y H Q
theorem HD:IxR X (rIx X.K):=aQ.or (bW.or Ln)
theorem qT (lo hi:Option Int) (n:Nat):(Vw lo hi none n).1=((HT.sIx n 0 lo:Nat):Int)/\(Vw lo hi none n).2.1=((HT.sIx n n hi:Nat):Int)/\(Vw lo hi none n).2.2=1:=by
 refine⟨?_,?_,rfl⟩
 ·cases lo with
  | none=>simp [Vw,HT.sIx]
  | some i =>
   simp only[Vw,HT.sIx,Option.getD_none,show (1:Int) > 0 by decide,if_true]
   by_cases h:i < 0
   ·simp only[h,if_true] <;> lia
   ·simp only[h,if_false] <;> lia
 ·cases hi with
  | none=>simp [Vw,HT.sIx]
  | some i =>
   simp only[Vw,HT.sIx,Option.getD_none,show (1:Int) > 0 by decide,if_true]
   by_cases h:i < 0
   ·simp only[h,if_true] <;> lia
   ·simp only[h,if_false] <;> lia
theorem pX (its:List Value) (lo hi:Option Int):slicePick its.toArray lo hi none=((its.drop (HT.sIx its.length 0 lo)).take (HT.sIx its.length its.length hi - HT.sIx its.length 0 lo)).toArray:=by
 obtain⟨h1,h2,h3⟩:=qT lo hi its.toArray.size
 unfold slicePick
 rw[h1,h2,h3]
 simp only[sliceRange_one,pick_run,Qe] <;> rfl
inductive Mf (K:Qi) (x:V) (lo:Option Int) (hi:Option Int) (H:Hp) (Q:VK):Prop where
 | mk (a:Addr) (xs:List V) (z0:x = .ref a) (z1:SqL K H a xs) (z2:∀ p,H p=none->Q (.ref p) (upd H p (.lst (Dv xs lo hi)))):Mf K x lo hi H Q
def Oi (K:Qi):V->Option Int->Option Int->Hp->VK->Prop:=fun x lo hi H Q=>Mf K x lo hi H Q
theorem Jq:SlR X (Oi X.K):=by
 intro pins s σ H x v vl vu lo hi sl Q I rx hs pl pu h
 obtain⟨a,xs,rfl,hx,q⟩:=h
 cases rx
 obtain⟨its,r,ht,hz⟩:=I.list hx
 have hlen:=r.length
 refine⟨"list",_,slot_list_getitem.lookup,ht.isList.typeIs,?_⟩
 refine wpAny_getItem_list_slice ht.isList hs pl pu .none (by simp) ?_ (by rw[Qe] <;> lia)
 rw[pX,← hlen]
 refine⟨.ref s.heap.objs.size,_,I.laid (t':=s.toks) (o:=.lst (Dv xs lo hi)) (fun b ob q=>Pz _ q) (PX _) ?_,rfl,q _ (I.hok.fresh (PX _))⟩
 exact⟨Q6 (m5 xs lo hi) hz,_,0,(r.drop (HT.sIx xs.length 0 lo)).take (HT.sIx xs.length xs.length hi - HT.sIx xs.length 0 lo),PN _ rfl⟩
def pU:V->Bool
 | .non=>true
 | .bl _=>true
 | .int _=>true
 | .str _=>true
 | _=>false
def eqV:V->V->Bool
 | .non,.non=>true
 | .bl a,.bl b=>a == b
 | .bl a,.int b=>(if a then 1 else 0) == b
 | .int a,.bl b=>a == (if b then 1 else 0)
 | .int a,.int b=>a == b
 | .str a,.str b=>a == b
 | _,_=>false
theorem Ky {A:QK} {s:PB} {y x:V} {u v:Value} (ry:RelV y u) (rx:RelV x v) (fy:pU y=true) (fx:pU x=true):SeqAt.EqAt A s u v (eqV y x):=by
 cases y with
 | non =>
  cases ry
  cases x with
  | non=>cases rx; exact SeqAt.EqAt.same _
  | bl b=>cases rx; exact SeqAt.EqAt.none_bool b
  | int b=>obtain⟨t,rfl⟩:=rx; exact SeqAt.EqAt.none_int b t
  | str b=>obtain⟨t,rfl⟩:=rx; exact SeqAt.EqAt.none_str b t
  | _=>exact absurd (show false=true from fx) Qc
 | bl a =>
  cases ry
  cases x with
  | non=>cases rx; exact SeqAt.EqAt.bool_none a
  | bl b=>cases rx; exact SeqAt.EqAt.bool_bool a b
  | int b=>obtain⟨t,rfl⟩:=rx; exact SeqAt.EqAt.bool_int a b t
  | str b=>obtain⟨t,rfl⟩:=rx; exact SeqAt.EqAt.bool_str a b t
  | _=>exact absurd (show false=true from fx) Qc
 | int a =>
  obtain⟨t',rfl⟩:=ry
  cases x with
  | non=>cases rx; exact SeqAt.EqAt.int_none a t'
  | bl b=>cases rx; exact SeqAt.EqAt.int_bool a t' b
  | int b=>obtain⟨t,rfl⟩:=rx; exact Xc a t' b t
  | str b=>obtain⟨t,rfl⟩:=rx; exact SeqAt.EqAt.int_str a t' b t
  | _=>exact absurd (show false=true from fx) Qc
 | str a =>
  obtain⟨t',rfl⟩:=ry
  cases x with
  | non=>cases rx; exact SeqAt.EqAt.str_none a t'
  | bl b=>cases rx; exact SeqAt.EqAt.str_bool a t' b
  | int b=>obtain⟨t,rfl⟩:=rx; exact SeqAt.EqAt.str_int a t' b t
  | str b=>obtain⟨t,rfl⟩:=rx; exact SeqAt.EqAt.str_str a t' b t
  | _=>exact absurd (show false=true from fx) Qc
 | _=>exact absurd (show false=true from fy) Qc
def eqU (x:V) (u:Value):Bool:=match u with
 | .none=>eqV .non x
 | .bool b=>eqV (.bl b) x
 | .int i _=>eqV (.int i) x
 | .str z _=>eqV (.str z) x
 | _=>false
theorem GQ {x y:V} {u:Value} (r:RelV y u) (f:pU y=true):eqU x u=eqV y x:=by
 cases y with
 | non=>cases r; rfl
 | bl b=>cases r; rfl
 | int i=>obtain⟨t,rfl⟩:=r; rfl
 | str z=>obtain⟨t,rfl⟩:=r; rfl
 | _=>exact absurd (show false=true from f) Qc
theorem vD {x:V}:∀ {xs:List V} {us:List Value},Vals xs us->xs.all pU=true->us.any (eqU x)=xs.any fun y=>eqV y x
 | _,_,.nil,_=>rfl
 | y::xs,u::us,.cons r t,f=>by
  rw[Vv,Rz] at f
  rw[Vu,Vu,GQ r f.1,vD t f.2]
theorem qx {A:QK} {s:PB} {x:V} {v:Value} (rx:RelV x v) (fx:pU x=true):∀ {xs:List V} {us:List Value},Vals xs us->xs.all pU=true->∀ u∈us,SeqAt.EqAt A s u v (eqU x u)
 | _,_,.nil,_=>fun u hu=>by cases hu
 | y::xs,u::us,.cons r t,f=>fun u' hu=>by
  rw[Vv,Rz] at f
  rcases List.mem_cons.mp hu with rfl | hu
  ·rw[GQ r f.1]; exact Ky r rx f.1 fx
  ·exact qx rx fx t f.2 u' hu
def inV (x:V) (xs:List V):Bool:=xs.any fun y=>eqV y x
inductive Oc (K:Qi) (neg:Bool) (x:V) (y:V) (H:Hp) (Q:VK):Prop where
 | mk (p:Addr) (xs:List V) (z0:y = .ref p) (z1:(SqL K H p xs∨SqT K H p xs)) (z2:pU x=true) (z3:xs.all pU=true) (z4:Q (.bl (if neg then !inV x xs else inV x xs)) H):Oc K neg x y H Q
def rIn (K:Qi) (neg:Bool):R2:=fun x y H Q=>Oc K neg x y H Q
theorem jO:OpR X (Td .In) (rIn X.K false):=by
 intro pins s σ H x y v u Q I rx ry h
 obtain⟨p,xs,rfl,hq,fx,fs,q⟩:=h
 cases ry
 rcases hq with hq | hq
 ·obtain⟨its,r,pl,hz⟩:=I.list hq
  refine SeqAt.in_listAt (eqU x) pl.isList (fun w hw=>qx rx fx r fs w (by simpa using hw)) ⟨.bl _,H,I,rfl,?_⟩
  rw[show its.toArray.any (eqU x)=its.any (eqU x) by simp,vD r fs]
  exact q
 ·obtain⟨its,r,pl,hz⟩:=I.tuple hq
  refine SeqAt.in_tupleAt (eqU x) pl (fun w hw=>qx rx fx r fs w (by simpa using hw)) ⟨.bl _,H,I,rfl,?_⟩
  rw[show its.toArray.any (eqU x)=its.any (eqU x) by simp,vD r fs]
  exact q
theorem sE:iy X (.builtin "len") (fun xs H Q=>∃ p ys,xs=[.ref p]/\(SqL X.K H p ys∨SqT X.K H p ys)/\Q (.int ys.length) H):=by
 intro pins s σ H xs us Q I r h
 obtain⟨p,ys,rfl,hq,q⟩:=h
 obtain⟨u,rfl,rx⟩:=vals1 r
 cases rx
 have hn:=rE
 rcases hq with hq | hq
 ·obtain⟨its,r',pl,hz⟩:=I.list hq
  have hlen:=r'.length
  exact Calls.call_len_list pl.isList (by simp only[Qe] <;> lia) ⟨.int ys.length,H,I.tok _,⟨s.toks+1,by rw[Qe,hlen]⟩,q⟩
 ·obtain⟨its,r',pl,hz⟩:=I.tuple hq
  have hlen:=r'.length
  exact len_tuple pl (by simp only[Qe] <;> lia) ⟨.int ys.length,H,I.tok _,⟨s.toks+1,by rw[Qe,hlen]⟩,q⟩
theorem rT:iy X (.type "list") (fun xs H Q=>∃ p ys,xs=[.ref p]/\(SqL X.K H p ys∨SqT X.K H p ys)/\∀ l,H l=none->Q (.ref l) (upd H l (.lst ys))):=by
 intro pins s σ H xs us Q I r h
 obtain⟨p,ys,rfl,hq,q⟩:=h
 obtain⟨u,rfl,rx⟩:=vals1 r
 cases rx
 have fin:∀ (its:List Value),Vals ys its->ys.length<=sizeLine->∀ (h':Rb) (c':Nat),(∀ b o',s.heap.get? b=some o'->h'.get? b=some o') →
   h'.get? s.heap.objs.size=some { cls:=.type "list",dict:=none,data:=.seq its.toArray c',slots:=#[] }->EP X pins σ Q (.ref s.heap.objs.size) { s with heap:=h' }:=fun its r' hz h' c' kp e =>
  ⟨.ref s.heap.objs.size,_,I.laid (t':=s.toks) kp (PX _) (show eF X.prog X.w _ h' _ (.lst ys) from ⟨hz,its,c',r',e⟩),rfl,q _ (I.hok.fresh (PX _))⟩
 rcases hq with hq | hq
 ·obtain⟨its,r',pl,hz⟩:=I.list hq
  have hlen:=r'.length
  obtain⟨o,ho,hc,n,hd⟩:=pl.isList
  exact call_list_seq p (.inl rfl) ho hc hd (fun h' c' kp e=>fin its r' hz h' c' kp e) (by simp only[Qe] <;> lia)
 ·obtain⟨its,r',pl,hz⟩:=I.tuple hq
  have hlen:=r'.length
  obtain⟨o,ho,hc,n,hd⟩:=pl
  exact call_list_seq p (.inr rfl) ho hc hd (fun h' c' kp e=>fin its r' hz h' c' kp e) (by simp only[Qe] <;> lia)
theorem qO:iy X (.type "tuple") (fun xs H Q=>∃ p ys,xs=[.ref p]/\((SqL X.K H p ys/\∀ l,H l=none->Q (.ref l) (upd H l (.tup ys)))∨(SqT X.K H p ys/\Q (.ref p) H))):=by
 intro pins s σ H xs us Q I r h
 obtain⟨p,ys,rfl,h⟩:=h
 obtain⟨u,rfl,rx⟩:=vals1 r
 cases rx
 rcases h with⟨hq,q⟩ | ⟨hq,q⟩
 ·obtain⟨its,r',pl,hz⟩:=I.list hq
  have hlen:=r'.length
  refine call_tuple_list pl.isList (fun h' kp=>?_) (by simp only[Qe] <;> lia)
  have I1:Inv X pins σ H { s with heap:=h' }:=I.kept (t':=s.toks) kp
  have I2:Inv X pins σ (upd H h'.objs.size (.tup ys)) { s with heap:=h'.push { cls:=.type "tuple",data:=.seq its.toArray } } :=
   I1.laid (t':=s.toks) (fun b o e=>Pz _ e) (PX _) (show eF X.prog X.w _ _ _ (.tup ys) from ⟨hz,its,r',IsTup.new _ _⟩)
  exact⟨.ref h'.objs.size,_,I2,rfl,q _ (I1.hok.fresh (PX _))⟩
 ·obtain⟨its,r',pl,hz⟩:=I.tuple hq
  exact call_tuple_same pl ⟨.ref p,H,I,rfl,q⟩
def tyV (K:Qi) (T:String) (x:V) (H:Hp):Prop:=match x with
 | .str _=>T = "str"
 | .int _=>T = "int"
 | .ref p=>(T = "list"/\∃ xs,SqL K H p xs)∨(T = "tuple"/\∃ o,K.lookup p=some o/\o.cls = .type "tuple"/\o.dict=none) ∨
   (T = "dict"/\((∃ kvs,H p=some (.dK kvs))∨∃ kvs,H p=some (.dT kvs)))∨(T = "set"/\∃ S n,H p=some (.set S n))
 | _=>False
theorem Hu {pins:List (Addr × Tv)} {σ:St} {H:Hp} {s:PB} {T:String} {x:V} {v:Value} (I:Inv X pins σ H s) (r:RelV x v) (ty:tyV X.K T x H) :
  s.TypeIs v T/\∀ a,v = .ref a->∃ ob,s.heap.get? a=some ob/\ob.dict=none:=by
 cases x with
 | str z =>
  obtain⟨t,rfl⟩:=r
  cases (show T = "str" from ty)
  exact⟨typeIs_str s z t,fun _ e=>nomatch e⟩
 | int i =>
  obtain⟨t,rfl⟩:=r
  cases (show T = "int" from ty)
  exact⟨V4 s i t,fun _ e=>nomatch e⟩
 | ref p =>
  cases r
  rcases ty with⟨rfl,xs,hq⟩ | ⟨rfl,o,hk,hc,hd⟩ | ⟨rfl,hk⟩ | ⟨rfl,S,n,hk⟩
  ·obtain⟨its,_,pl,_⟩:=I.list hq
   refine⟨pl.isList.typeIs,fun a e=>?_⟩
   cases e
   obtain⟨o,n,e,c,hd,_⟩:=pl
   exact⟨o,e,hd⟩
  ·refine⟨⟨o,I.kIn p o hk,hc⟩,fun a e=>?_⟩
   cases e
   exact⟨o,I.kIn _ o hk,hd⟩
  ·have z:∃ o,s.heap.get? p=some o/\o.ExactDict:=by
    rcases hk with⟨kvs,hk⟩ | ⟨kvs,hk⟩
    ·obtain⟨_,_,_,_,o,_,_,e,ex,_⟩:=I.hok p _ hk
     exact⟨o,e,ex⟩
    ·obtain⟨_,_,_,_,o,_,_,e,ex,_⟩:=I.hok p _ hk
     exact⟨o,e,ex⟩
   obtain⟨o,e,ex⟩:=z
   refine⟨⟨o,e,ex.1⟩,fun a e2=>?_⟩
   cases e2
   exact⟨o,e,ex.2.1⟩
  ·obtain⟨o,_,_,_,e,ex,_⟩:=I.hok p _ hk
   refine⟨⟨o,e,ex.1⟩,fun a e2=>?_⟩
   cases e2
   exact⟨o,e,ex.2.1⟩
 | _=>exact UJ ty
def Pj (K:Qi) (T:String) (r:V->List V->Hp->VK->Prop) (to:TE):TE:=fun σ H Q=>to σ H fun x H1=>tyV K T x H1/\r x [] H1 Q
def tBM (K:Qi) (T:String) (r:V->List V->Hp->VK->Prop) (to:TE) (t:TA):TE:=fun σ H Q=>to σ H fun x H1=>tyV K T x H1/\t σ H1 fun xs H2=>r x xs H2 Q
variable {o e:Expr} {es:List Expr} {to:TE} {t:TA} {name:Rx} {apos cpos:Vo} {T id:String} {r:V->List V->Hp->VK->Prop}
theorem K9 (pa:PlainAttrs T) (slot:Slot T name id) (hty:typeOf (.builtin id)=pure (.type "method_descriptor")) (hm:MtR X id r) (ho:PE X o to)
  (hbase:attributeBase o name X.env (Tc o X.env)=Tc o X.env:=by rfl) (hline:(apos.endLine == cpos.line)=true:=by rfl):PE X (.Call (.Attribute o name apos) [] [] cpos) (Pj X.K T r to):=by
 intro pins s σ H Q I h
 refine wpAny_Call_method0_late hbase hline (thn (ho pins s σ H _ I h) fun v s1 ⟨x,H1,I1,r1,ty,q1⟩=>?_)
 obtain⟨h1,h2⟩:=Hu I1 r1 ty
 exact⟨T,id,pa,slot,hty,h1,h2,Calls.callWith_builtin rfl (PySem.evalArgs_none (hm pins s1 σ H1 x [] v [] Q I1 r1 .nil q1))⟩
theorem j8 (pa:PlainAttrs T) (slot:Slot T name id) (hty:typeOf (.builtin id)=pure (.type "method_descriptor")) (hm:MtR X id r) (ho:PE X o to) (ha:PA X (e::es) t)
  (hbase:attributeBase o name X.env (Tc o X.env)=Tc o X.env:=by rfl)
  (hfew:((Uq cpos (Qz (e::es) X.env)).all (fun x=>!x.1) && (backToKw cpos (keywordEach [] X.env)).all (fun x=>x.1.isSome)
   && decide ((e::es).length+([]:List Keyword).length+(if ([]:List Keyword).isEmpty then 0 else 1) < 30))=true:=by rfl)
  (hline:(apos.endLine == cpos.line)=true:=by rfl) (hs:Qz (e::es) X.env=(false,Tc e X.env)::Qz es X.env:=by rfl) (hplain:(Uq cpos (Qz es X.env)).any (·.1)=false:=by rfl) :
  PE X (.Call (.Attribute o name apos) (e::es) [] cpos) (tBM X.K T r to t):=by
 intro pins s σ H Q I h
 refine wpAny_Call_method_late hbase hfew hline rfl (thn (ho pins s σ H _ I h) fun v s1 ⟨x,H1,I1,r1,ty,q1⟩=>?_)
 obtain⟨h1,h2⟩:=Hu I1 r1 ty
 refine⟨T,id,pa,slot,hty,h1,h2,?_⟩
 have hA:=ha cpos pins s1 σ H1 _ I1 q1
 rw[hs] at hA ⊢
 refine Calls.callWith_builtin (by show (false || (Uq cpos (Qz es X.env)).any (·.1))=false; rw[hplain] <;> rfl) (Calls.evalArgs_plain ?_)
 exact thn hA fun us s2 ⟨vs,H2,I2,r2,q2⟩=>hm pins s2 σ H2 x vs v us Q I2 r1 r2 q2
/- xs.append(e),list.index on a module's tuple .. are MtR facts of 06m -/
end
end L2
namespace L2
open PySem PySem.Spec PyProof.Rows
def MtM (X:Cx) (id:String) (r:V->List V->Hp->VK->Prop):Prop :=
 ∀ (pins:List (Addr × Tv)) (s:PB) (σ:St) (H:Hp) (x:V) (xs:List V) (v:Value) (us:List Value) (Q:VK),Inv X pins σ H s->RelV x v->Vals xs us->r x xs H Q →
  Qd (Qt X.prog X.w) X.A (call (.builtin id) (v::us)) (EP X pins σ Q) X.xe s
theorem Vals.one:∀ {x:V} {us:List Value},Vals [x] us->∃ u,us=[u]/\RelV x u
 | _,_,.cons r .nil=>⟨_,rfl,r⟩
theorem Vals.zero:∀ {us:List Value},Vals [] us->us=[]
 | _,.nil=>rfl
theorem Vals.dropLast {xs:List V} {us:List Value} (h:Vals xs us):Vals xs.dropLast us.dropLast:=by
 induction h with
 | nil=>exact .nil
 | cons r t ih =>
  cases t with
  | nil=>exact .nil
  | cons q t'=>exact .cons r ih
theorem Vals.eraseIdx:∀ {xs:List V} {us:List Value} (i:Nat),Vals xs us->Vals (xs.eraseIdx i) (us.eraseIdx i)
 | _,_,_,.nil=>.nil
 | _,_,0,.cons _ t=>t
 | _,_,i+1,.cons r t=>.cons r (Vals.eraseIdx i t)
theorem Vals.rep {xs:List V} {us:List Value} (h:Vals xs us):∀ k:Nat,Vals (Qh k xs).flatten (Qh k us).flatten
 | 0=>.nil
 | k+1=>by
  rw[Su,Su,Vm,Vm]
  exact Vals.append h (Vals.rep h k)
theorem yR {α:Type} (l:List α):l.eraseIdx (l.length - 1)=l.dropLast:=by
 induction l with
 | nil=>rfl
 | cons a r ih =>
  cases r with
  | nil=>rfl
  | cons b r =>
   have e:(a::b::r).length - 1=((b::r).length - 1)+1:=by
    have h1:(a::b::r).length=r.length+2:=rfl
    have h2:(b::r).length=r.length+1:=rfl
    lia
   rw[e,List.eraseIdx_cons_succ,ih]
   all_goals rfl
theorem rD {α:Type}:∀ (l:List α) (i:Nat),(l.eraseIdx i).length<=l.length
 | [],_=>PX _
 | _::_,0=>Tq _
 | _::r,i+1=>XQ (rD r i)
theorem foldl_rep (its:List Value):∀ (k:Nat) (acc:List Value),
  Vr (fun x1 x2=>x1++x2) acc.toArray (Qh k its.toArray)=(acc++(Qh k its).flatten).toArray
 | 0,acc=>by simp
 | k+1,acc=>by
  have e:acc.toArray++its.toArray=(acc++its).toArray:=by simp
  have e2:(acc++its)++(Qh k its).flatten=acc++(Qh (k+1) its).flatten:=by
   rw[Su,Vm,Tt]
  rw[← e2,← foldl_rep its k (acc++its),← e,Su,Rm]
section
variable {X:Cx} {pins:List (Addr × Tv)} {σ:St} {H:Hp} {s:PB} {l b:Addr} {xs ys zs:List V}
theorem Inv.NB {its its':List Value} {n:Nat} {f:Array Value->Array Value} {t':Nat} (I:Inv X pins σ H s) (hH:H l=some (.lst xs))
  (e:s.heap.get? l=some { cls:=.type "list",data:=.seq its.toArray n }) (hf:f its.toArray=its'.toArray) (hv:Vals ys its') (hz:ys.length<=sizeLine) :
  Inv X pins σ (upd H l (.lst ys)) { s with heap:=s.heap.update l (RN f),toks:=t' }:=by
 have q:=PySem.IsL.update e f
 rw[hf] at q
 refine I.write (x:=l) (e:=l) (by rw[hH]; exact trivial) (.inl rfl) (fun b' u hb hu=>(Q0 s.heap (RN f) (TF hb)).trans hu) ⟨_,q⟩ ?_
 exact⟨hz,its',_,hv,q⟩
theorem Inv.Nj {its:List Value} {t':Nat} (I:Inv X pins σ H s) (hv:Vals ys its) (hz:ys.length<=sizeLine) :
  Inv X pins σ (upd H s.heap.objs.size (.lst ys)) { s with heap:=s.heap.push { cls:=.type "list",data:=.seq its.toArray },toks:=t' } :=
 I.laid (fun _ _ q=>Pz _ q) (PX _) ⟨hz,its,0,hv,PN _ rfl⟩
theorem Inv.fresh (I:Inv X pins σ H s):H s.heap.objs.size=none:=I.hok.fresh (PX _)
theorem Inv.JT (I:Inv X pins σ H s) (hH:H l=some (.lst xs)):xs.length<=sizeLine/\∃ (its:List Value) (n:Nat),Vals xs its/\xs.length=its.length/\s.heap.get? l=some { cls:=.type "list",data:=.seq its.toArray n }:=by
 obtain⟨z,its,n,r,e⟩:=I.hok l _ hH
 exact⟨z,its,n,r,r.length,e⟩
theorem Ej {n:Nat} (h:n<=sizeLine):Wm n=false:=by
 unfold Wm
 exact decide_eq_false (by lia)
end
section
variable {X:Cx}
inductive wk (x:V) (vs:List V) (H:Hp) (Q:VK):Prop where
 | mk (l:Addr) (xs:List V) (y:V) (z0:x = .ref l) (z1:vs=[y]) (z2:H l=some (.lst xs)) (z3:xs.length < sizeLine) (z4:Q .non (upd H l (.lst (xs++[y])))):wk  x vs H Q
def Kd:V->List V->Hp->VK->Prop:=fun x vs H Q=>wk  x vs H Q
theorem cP:MtM X "list.append" Kd:=by
 intro pins s σ H x vs v us Q I rx rv h
 obtain⟨l,xs,y,rfl,rfl,hH,hz,q⟩:=h
 cases rx
 obtain⟨u,rfl,ru⟩:=rv.one
 obtain⟨z,its,n,r,hl,e⟩:=I.JT hH
 refine Ue F.slot_list_append ⟨_,e,rfl⟩ F.entry_list_append (F.args_list_append_2 _ _) (PySem.list_append l its.toArray n u (by rw[Qe]; lia)) ⟨e,?_⟩
 refine⟨.non,_,I.NB (its':=its++[u]) hH e (by simp) (r.append (.cons ru .nil)) ?_,rfl,q⟩
 rw[Qj,List.length_singleton]
 lia
def Pq:V->List V->Hp->VK->Prop:=fun x vs H Q=>∃ l xs y,x = .ref l/\vs=[]/\H l=some (.lst xs)/\xs[xs.length - 1]? = some y/\Q y (upd H l (.lst xs.dropLast))
theorem Lp:MtM X "list.pop" Pq:=by
 intro pins s σ H x vs v us Q I rx rv h
 obtain⟨l,xs,y,rfl,rfl,hH,hy,q⟩:=h
 cases rx
 have hus:=rv.zero
 subst hus
 obtain⟨z,its,n,r,hl,e⟩:=I.JT hH
 obtain⟨u,hu,ru⟩:=r.get hy
 have hy':its.toArray[its.toArray.size - 1]? = some u:=by
  show its.toArray[its.length - 1]? = some u
  rw[← QW,← hl]
  exact hu
 refine Ue F.slot_list_pop ⟨_,e,rfl⟩ F.entry_list_pop (F.args_list_pop_1 _) (MeetsSeq.list_pop_last l its.toArray n u hy' (by rw[Qe]; lia)) ⟨e,?_⟩
 refine⟨y,_,I.NB (its':=its.dropLast) hH e ?_ r.dropLast ?_,ru,q⟩
 ·show its.toArray.eraseIdxIfInBounds (its.toArray.size - 1)=its.dropLast.toArray
  rw[Qe,Xz,yR]
 ·rw[List.length_dropLast]
  lia
def Hn:V->List V->Hp->VK->Prop:=fun x vs H Q=>∃ l xs i k y,x = .ref l/\vs=[.int i]/\H l=some (.lst xs)/\-(2 ^ 63)<=i/\i < 2 ^ 63/\XF i xs.length=some k/\xs[k]? = some y/\Q y (upd H l (.lst (xs.eraseIdx k)))
theorem Er:MtM X "list.pop" Hn:=by
 intro pins s σ H x vs v us Q I rx rv h
 obtain⟨l,xs,i,k,y,rfl,rfl,hH,h1,h2,hk,hy,q⟩:=h
 cases rx
 obtain⟨u,rfl,ru⟩:=rv.one
 obtain⟨t,rfl⟩:=ru
 obtain⟨z,its,n,r,hl,e⟩:=I.JT hH
 obtain⟨w,hw,rw'⟩:=r.get hy
 refine Ue F.slot_list_pop ⟨_,e,rfl⟩ F.entry_list_pop (F.args_list_pop_2 _ _)
  (MeetsSeq.list_pop_at l its.toArray n i t k w (fitsIndex_both h1 h2) (by rw[Qe,← hl]; exact hk) (by rw[← QW]; exact hw) (by rw[Qe]; lia)) ⟨e,?_⟩
 refine⟨y,_,I.NB (its':=its.eraseIdx k) hH e ?_ (r.eraseIdx k) ?_,rw',q⟩
 ·show its.toArray.eraseIdxIfInBounds k=(its.eraseIdx k).toArray
  rw[Xz]
 ·have:=rD xs k
  lia
inductive Mv (x:V) (y:V) (H:Hp) (Q:VK):Prop where
 | mk (l:Addr) (b:Addr) (xs:List V) (zs:List V) (z0:x = .ref l) (z1:y = .ref b) (z2:H l=some (.lst xs)) (z3:H b=some (.lst zs)) (z4:xs.length+zs.length<=sizeLine) (z5:∀ p,H p=none->Q (.ref p) (upd H p (.lst (xs++zs)))):Mv  x y H Q
def Pr:R2:=fun x y H Q=>Mv  x y H Q
theorem zy:OpR X (Ux .Add) Pr:=by
 intro pins s σ H x y v u Q I rx ry h
 obtain⟨l,b,xs,zs,rfl,rfl,hH,hB,hz,q⟩:=h
 cases rx
 cases ry
 obtain⟨z,its,n,r,hl,e⟩:=I.JT hH
 obtain⟨z2,its2,n2,r2,hl2,e2⟩:=I.JT hB
 refine PySem.P.add_list e e2 ?_ (by rw[Qe,Qe]; lia)
 have ea:its.toArray++its2.toArray=(its++its2).toArray:=by simp
 rw[ea]
 exact⟨.ref _,_,I.Nj (t':=s.toks) (r.append r2) (by rw[Qj]; lia),rfl,q _ I.fresh⟩
def O8:R2:=fun x y H Q=>∃ l k xs,x = .ref l/\y = .int k/\H l=some (.lst xs)/\-(2 ^ 63)<=k/\k < 2 ^ 63/\xs.length * k.toNat<=sizeLine ∧
 ∀ p,H p=none->Q (.ref p) (upd H p (.lst (Qh k.toNat xs).flatten))
theorem len_rep {α:Type} (xs:List α) (k:Nat):(Qh k xs).flatten.length=k * xs.length:=by
 induction k with
 | zero=>simp
 | succ k ih=>rw[Su,Vm,Qj,ih,Nat.succ_mul,Nat.add_comm]
theorem GF:OpR X (Ux .Mult) O8:=by
 intro pins s σ H x y v u Q I rx ry h
 obtain⟨l,k,xs,rfl,rfl,hH,h1,h2,hz,q⟩:=h
 cases rx
 obtain⟨t,rfl⟩:=ry
 obtain⟨z,its,n,r,hl,e⟩:=I.JT hH
 have hlen:its.toArray.size * k.toNat<=sizeLine:=by rw[Qe,← hl]; exact hz
 have hcap:¬ its.toArray.size * k.toNat > (2 ^ 63 - 1) / 8:=by
  have:(sizeLine:Nat)<=(2 ^ 63 - 1) / 8:=by decide
  lia
 have hfit:¬ (!Builtin.List.listFitsIndex k)=true:=by
  rw[fitsIndex_both h1 h2]
  exact Qc
 have hlong:¬ Wm (its.toArray.size * k.toNat)=true:=by
  rw[Ej hlen]
  exact Qc
 have hnew:Vr (fun x1 x2=>x1++x2) #[] (Qh (if its.toArray.isEmpty=true then 0 else k.toNat) its.toArray)=(Qh k.toNat its).flatten.toArray:=by
  have f0:∀ m:Nat,Vr (fun x1 x2=>x1++x2) #[] (Qh m its.toArray)=(Qh m its).flatten.toArray:=fun m=>by
   have:=foldl_rep its m []
   rw[WQ] at this
   exact this
  rw[f0]
  cases its with
  | nil=>simp
  | cons a r'=>rw[if_neg (by simp)]
 refine Wc (T:="list") (U:="int") (by decide) ⟨_,e,rfl⟩ (fun s'=>V4 s' k t) noFill_list_mul Yb Vf repeat_list F.slot_int_index.lookup
  (Ue Vf (V4 s k t) XX (Xw _ _) (int___rmul___int_list k t l its.toArray n)
   ⟨e,rfl,⟨_,e,rfl⟩,Ue F.slot_list_mul ⟨_,e,rfl⟩ F.entry_list_mul (F.args_list_mul_2 _ _) (AutoListH.list___mul___list_int_3 l its.toArray n k t hfit hcap hlong) ⟨e,?_⟩⟩)
 rw[hnew]
 exact⟨.ref _,_,I.Nj (t':=s.toks) (r.rep k.toNat) (by rw[len_rep,Nat.mul_comm]; exact hz),rfl,q _ I.fresh⟩
end
section
variable {prog:Qx} {w:QG} {A:QK} {E:Value->PB->Prop} {s:PB}
set_option maxRecDepth 100000 in
end
section
variable {X:Cx}
end
end L2
namespace Att
open PySem PySem.W PySem.Calls PyProof.Rows
theorem mK {P:Params} {h:Rb}:∀ (ns:List Int) (vs:List Value),WellAll P h vs (ns.map WData.int)->Rh vs ns:=by
 intro ns
 induction ns with
 | nil =>
  intro vs w
  rw[Vk] at w
  cases w
  exact .nil
 | cons n ns ih =>
  intro vs w
  rw[QM] at w
  cases w with
  | cons a b =>
   cases a
   exact .cons _ _ (ih _ b)
theorem Bh {l:OpenLaw} {n:Nat} (hn:l.most=some n) {P:Params} {h:Rb} {args:List WData} {vals:List Value}
  (hpre:l.row.toRowW.claim.pre args=true) (hwl:WellAll P h vals args) :
  ∃ a vs ns,vals=[QS a]/\args=[WData.list (ns.map WData.int)]/\h.get? a=some { cls:=.type "list",data:=.seq vs.toArray }/\Rh vs ns/\ns.length<=n:=by
 have hsh:WShape.hasAll [] args [.list .int]=true:=(pre_splitW hpre).1
 have hc:l.pre.holds [] { args:=args }=true:=(pre_splitW hpre).2
 obtain⟨d,r,rfl,h1,h2⟩:=hasAllW_cons hsh
 obtain rfl:=hasAllW_nil h2
 obtain⟨xs,rfl,h3⟩:=hasW_list h1
 obtain⟨ns,rfl⟩:=items_int h3
 have hlen:ns.length<=n:=by
  unfold OpenLaw.pre at hc
  have h4:(WTm.not (.lt (.lit (.int (n:Int))) (.len (.arg 0)))).holds [] { args:=[.list (ns.map .int)] }=true:=by
   have h4:=(holds_andW hc).1
   rw[hn] at h4
   exact h4
  have h5:=condW_of h4 (w_not (w_lt w_lit (w_len_list (w_arg rfl))))
  rw[Py] at h5
  refine Nat.le_of_not_lt fun q=>?_
  have q':(n:Int) < ((ns.length:Nat):Int):=by lia
  first
   | (rw[decide_eq_true q'] at h5; exact absurd h5 (by decide))
   | (simp at h5; lia)
 cases hwl with
 | cons w1 w2 =>
  cases w2
  cases w1 with
  | list ho hall=>exact⟨_,_,ns,rfl,rfl,ho,mK ns _ hall,hlen⟩
theorem zp (l:OpenLaw) (args:List WData):l.row.toRowW.claim.post args (.bool true) args=true :=
 postW_of (r:=l.row.toRowW) (X:=(true == true))
  (show WShape.has [] (.bool true) .bool=true by first | rfl | decide | simp [WShape.has,WShape.arms,WShape.armsAll])
  (show (WTm.eq .res (.lit (.bool true))).value [] { args:=args,res:=some (.bool true),after:=args }=some (.bool (true == true)) from w_eq_bool (w_res rfl) w_lit) rfl
theorem vY {l:OpenLaw} {n:Nat} {q:Qx} {loose:List Rx} {XP:(Rx->Option Value)->Rb->Prop} {YP:QG->Rb->Prop} {d:DefRec}
  (hn:l.most=some n) (hdf:d.params.defaults=[])
  (call:∀ (w:QG) (s₀ s₁:PB) (mg mb:Rx->Option Value) (fa:Addr) (o:Tv) (pm cd doc:Value) (a:Addr) (vs:List Value) (ns:List Int),
   Ground q loose [] XP w s₀ mg mb s₁.heap->YP w s₁.heap →
   s₁.heap.get? fa=some o->o.data = .func (docDef d.name d.params d.body d.scope pm cd doc)->s₁.heap.CodeRec cd d.name->mg d.name=some (.ref fa) →
   s₁.heap.get? a=some { cls:=.type "list",data:=.seq vs.toArray }->Rh vs ns->ns.length<=n->s₁.gens = #[] →
   U0 (Qt l.prog w) Xl (.call (.ref fa) ⟨[.ref a],[]⟩) (fun r s'=>r = .ok (.ret (.bool true))/\OldK s₁.heap s'.heap/\s'.os=s₁.os/\WD s'.gens) s₁) :
  WalkO q loose XP YP l.row.toRowW d [] (fun f vs=>PySem.call f vs):=by
 intro w s₀ s₁ mg mb G Y fa o pm cd doc dV kV ho hd hcd hD hmg hg args vals as hpre hlay hrd hwl hlo
 obtain rfl:dV = .none:=Dflts.none hD hdf
 obtain rfl:kV = .none:=Dflts.noKw hD
 obtain⟨a,vs,ns,rfl,rfl,hobj,hints,hlen⟩:=Bh hn hpre hwl
 refine enter_call (Ww (call w s₀ s₁ mg mb fa o pm cd doc a vs ns G Y ho (fd_plain hd) hcd hmg hobj hints hlen hg) fun r s' hq=>?_)
 obtain⟨rfl,h2,h3,h4⟩:=hq
 exact⟨.inl ⟨.bool true,.bool true,[],rfl,fun _=>rfl,.bool true,zp l _,fun _=>⟨Xu,fun _ hm=>(nomatch hm)⟩⟩,h2,h3,h4⟩
section
variable {prog:Qx} {w:QG} {A:QK} {E:Value->PB->Prop} {s:PB} {K:Frag}
end
end Att
namespace L2
open PySem PySem.Spec PyProof.Rows
theorem jM:∀ {vs:List Value} {ns:List Int},Rh vs ns->Vals (ns.map V.int) vs
 | _,_,.nil=>.nil
 | _,_,.cons n t h=>.cons ⟨t,rfl⟩ (jM h)
def Only (H:Hp):Prop:=∀ b,H b=none∨∃ o xs,H b=some (.frz o (.lst xs))
theorem Ff {P:Qx} {w:QG} {K:Qi} {mg mb:Rx->Option Value} {CX:CXT} {k:Nat} {fa a:Addr} {fd:Um} {x:Rx} {sp:Sp} {s₁:PB} {vs:List Value} {ns:List Int}
  (KX:K.In s₁.heap) (hns:s₁.heap.Ns QD mg) (hb:s₁.heap.Ns builtinsNs mb) (hbb:∀ x:Rx,x≠"__name__"->mb x=Q5 x) (hlim:s₁.heap.NoLimit) (hg:s₁.gens = #[])
  (ha:s₁.heap.get? a=some { cls:=.type "list",data:=.seq vs.toArray }) (hi:Rh vs ns) (hl:ns.length<=sizeLine) (hr:oF k Xl)
  (F:∀ base:Rb,K.In base->base.Ns QD mg->fj P w K mg base CX k fa fd [x] sp) (hbind:∀ (s:PB) (u:Value),W4 s fd ⟨[u],[]⟩ [(x,u)])
  (hsp:∀ H:Hp,Only H->SqL K H a (ns.map V.int)->sp [.ref a] H (fun v _=>v = .bl true) fun _ _ _=>False)
  (hCX:∀ H e s',CX [] H s₁ (fun _ _ _=>False) e s'->False) :
  U0 (Qt P w) Xl (.call (.ref fa) ⟨[.ref a],[]⟩) (fun r s'=>r = .ok (.ret (.bool true))/\OldK s₁.heap s'.heap/\s'.os=s₁.os/\WD s'.gens) s₁:=by
 have rv:=jM hi
 have lenV:=hi.length
 have core:∀ H:Hp,Only H->SqL K H a (ns.map V.int)->HOk P w H s₁.heap->(∀ b,H b≠none->b=a)->(H a≠none->K.lookup a=none) →
   U0 (Qt P w) Xl (.call (.ref fa) ⟨[.ref a],[]⟩) (fun r s'=>r = .ok (.ret (.bool true))/\OldK s₁.heap s'.heap/\s'.os=s₁.os/\WD s'.gens) s₁:=by
  intro H hO hS hok hA hK
  have base_of:∀ {b:Addr} {o:Tv},s₁.heap.get? b=some o->H b=none->(Ep s₁.heap H).get? b=some o:=fun e n=>Fg e n
  have noA:∀ {b:Addr} {o:Tv} {es:Array DictEntry} {ep:Nat},s₁.heap.get? b=some o->o.data = .dict es ep->H b=none:=fun {b o es ep} e d=>by
   cases q:H b with
   | none=>rfl
   | some u =>
    have e':b=a:=hA b (by rw[q]; simp)
    subst e'
    rw[ha] at e; cases e
    have d':Data.seq vs.toArray _=Data.dict es ep:=d
    cases d'
  have nsK:∀ {b:Addr} {m:Rx->Option Value},s₁.heap.Ns b m->(Ep s₁.heap H).Ns b m:=fun {b m} ⟨o,es,ep,e,d,r⟩=>⟨o,es,ep,base_of e (noA e d),d,r⟩
  have hKb:K.In (Ep s₁.heap H):=fun b o e=>base_of (KX b o e) (by
   cases q:H b with
   | none=>rfl
   | some u =>
    have e':b=a:=hA b (by rw[q]; simp)
    subst e'
    rw[hK (by rw[q]; simp)] at e; cases e)
  have hM:Mod K mg (Ep s₁.heap H):=⟨hKb,nsK hns,⟨mb,nsK hb,hbb⟩,let ⟨mc,h1,h2⟩:=hlim; ⟨mc,nsK h1,h2⟩⟩
  have e0:M7 P w K mg (Ep s₁.heap H) Xl [] s₁ H:=⟨rfl,hM,fun b o e=>JV e,Nat.le_of_eq (Aj _ _),trivial,fun b hb=>absurd (show b∈([]:List Addr) from hb) (by simp),hok,.of_eq hg⟩
  refine Ww ((F _ hKb (nsK hns)).run Xl [] s₁ H ⟨[.ref a],[]⟩ [.ref a] [.ref a] _ _ hr e0 (hbind s₁ (.ref a)) (.cons rfl .nil) (hsp H hO hS)) fun r s' h=>?_
  cases r with
  | error e=>exact (hCX H e s' h).elim
  | ok fl =>
   cases fl with
   | next=>exact UJ h
   | brk=>exact UJ h
   | cont=>exact UJ h
   | ret u =>
    obtain⟨v,H',os,bare,un,hok',r',q⟩:=h
    have q':v = .bl true:=q
    subst q'
    obtain rfl:u=Value.bool true:=r'
    refine⟨rfl,OldK.of_keep fun b o e=>?_,os,bare⟩
    cases q:H b with
    | none=>exact un.keep b o e q (by intro z; exact absurd (show b∈([]:List Addr) from z) (by simp)) (by simp)
    | some u =>
     rcases hO b with z | ⟨ob,xs,z⟩
     ·rw[q] at z; cases z
     ·have z2:=un.frzs b ob _ z
      obtain⟨e1,_⟩:=hok b _ z
      obtain⟨e2,_⟩:=hok' b _ z2
      rw[e] at e1; cases e1
      exact e2
 cases hk:K.lookup a with
 | some o =>
  have e:=KX a o hk
  rw[ha] at e
  cases e
  refine core (fun _=>none) (fun _=>.inl rfl) (.inr ⟨_,vs.toArray,_,hk,rfl,rfl,rfl,by rw[Qe,lenV]; exact hl,by simpa using rv⟩) (fun b u z=>by have z':(none:Option HO)=some u:=z; cases z') (fun b z=>absurd rfl z) fun z=>absurd rfl z
 | none =>
  refine core (fun b=>if b=a then some (.frz { cls:=.type "list",data:=.seq vs.toArray } (.lst (ns.map V.int))) else none) (fun b=>?_) (.inl (.inr ⟨{ cls:=.type "list",data:=.seq vs.toArray },if_pos rfl⟩)) (fun b u z=>?_) (fun b z=>?_) fun _=>hk
  ·by_cases hb:b=a
   ·exact .inr ⟨_,_,if_pos hb⟩
   ·exact .inl (if_neg hb)
  ·by_cases hb:b=a
   ·have z':=(if_pos hb).symm.trans z
    cases z'
    subst hb
    exact⟨ha,by rw[Py]; exact hl,vs,_,rv,ha⟩
   ·have z':=(if_neg hb).symm.trans z
    cases z'
  ·by_cases hb:b=a
   ·exact hb
   ·exact absurd (if_neg hb) z
end L2
namespace L2
open PySem PySem.Spec PyProof.Rows
theorem JX {l:PySem.W.OpenLaw} {n k:Nat} {q:Qx} {loose:List Rx} {XP:(Rx->Option Value)->Rb->Prop} {YP:QG->Rb->Prop} {d:DefRec} {K:Params->Qi} {CX:QG->CXT} {sp:QG->Sp} {x:Rx}
  (hn:l.most=some n) (hn2:n<=sizeLine) (hdf:d.params.defaults=[]) (hr:oF k Xl)
  (hY:∀ (w:QG) (h:Rb),YP w h->(K w.params).In h)
  (F:∀ (w:QG) (mg:Rx->Option Value) (fa:Addr) (h:Rb),(K w.params).In h->h.Ns QD mg->mg d.name=some (.ref fa) →
   ∃ fd:Um,(∀ (s:PB) (u:Value),W4 s fd ⟨[u],[]⟩ [(x,u)]) ∧
    ∀ base:Rb,(K w.params).In base->base.Ns QD mg->fj l.prog w (K w.params) mg base (CX w) k fa fd [x] (sp w))
  (hsp:∀ (w:QG) (H:Hp) (a:Addr) (ns:List Int),ns.length<=n->Only H->SqL (K w.params) H a (ns.map V.int)->sp w [.ref a] H (fun v _=>v = .bl true) fun _ _ _=>False)
  (hCX:∀ (w:QG) (H:Hp) (s:PB) (e:Value) (s':PB),CX w [] H s (fun _ _ _=>False) e s'->False) :
  PySem.W.WalkO q loose XP YP l.row.toRowW d [] (fun f vs=>PySem.call f vs):=by
 refine Att.vY hn hdf fun w s₀ s₁ mg mb fa o pm cd doc a vs ns G Y ho hd hcd hmg hobj hints hlen hg=>?_
 have KX:=hY w _ Y
 obtain⟨fd,hb,hF⟩:=F w mg fa _ KX G.T.g hmg
 exact Ff KX G.T.g G.T.b G.T.builtins G.T.nolimit hg hobj hints (Q6 hlen hn2) hr hF hb (fun H hO hS=>hsp w H a ns hlen hO hS) fun H e s'=>hCX w H s₁ e s'
end L2
namespace L2
open PySem PySem.Spec PyProof.Rows
def fM (s:Stmt):Arguments:=match s with
 | .FunctionDef _ a _ _ _ _ _ _ _ _=>a
 | _=>{ posonlyargs:=[],args:=[],vararg:=none,kwonlyargs:=[],kw_defaults:=[],kwarg:=none,defaults:=[] }
def eY (s:Stmt):List Stmt:=match s with
 | .FunctionDef _ _ b _ _ _ _ _ _ _=>b
 | _=>[]
def aH (s:Stmt):Vi:=match s with
 | .FunctionDef _ _ _ _ _ _ sc _ _ _=>sc
 | _=>{ kind:=.function,names:=[],isGenerator:=false,isCoroutine:=false }
abbrev CX0:CXT:=fun _ _ _ _ _ _=>False
abbrev E0:XK:=fun _ _ _=>False
theorem Np {X:Cx}:Passes CX0 X E0:=fun _ _ _ _ _ _ _ h=>h.elim
structure Fun (K:Qi) (x qual:Rx) (st:Stmt) (f:Addr) (fd:Um):Prop where
 ex:∃ (oc:Value) (od:Option Addr) (kV doc pm:Value) (an:Option Addr) (cdv ct:Value) (osl:Array (Option Value)),
  fd=Vj x qual (fM st) (eY st) (aH st) .none kV doc pm an cdv ct/\K.lookup f=some ⟨oc,od,.func fd,osl⟩/\WX K cdv qual=true
 kp:V6 K (.ref f)=true
section
variable {P:Qx} {w:QG} {K:Qi} {mg:Rx->Option Value} {base:Rb}
theorem Fun.ok {x qual:Rx} {st:Stmt} {f:Addr} {fd:Um} {N ps:List Rx} {k:Nat} {sp:Sp} (F:Fun K x qual st f fd) (S:aW N ps (aH st)) (len:∀ vs H Q E,sp vs H Q E->vs.length=ps.length)
  (hbody:∀ (cdv:Value) (A:QK) (outer:List Env) (s:PB) (H:Hp) (vs:List V) (Q:VK) (E:XK),oF k (A.deeper (Xb qual (aH st) s.heap.objs.size f cdv))->sp vs H Q E →
   ∃ t,PSs (Kl CX0 P w K mg base N qual (aH st) f cdv A outer s H E).nox (eY st) t/\t { nx:=fun _ H'=>Q .non H',rt:=Q } (start N vs) H):fj P w K mg base CX0 (k+1) f fd ps sp:=by
 obtain⟨oc,od,kV,doc,pm,an,cdv,ct,osl,rfl,lk,hcd⟩:=F.ex
 refine Ob lk hcd S len fun A outer s H vs Q E hr hsp=>?_
 obtain⟨t,h,q⟩:=hbody cdv A outer s H vs Q E hr hsp
 exact⟨t,h.nox,q⟩
theorem Fun.binds {x qual:Rx} {st:Stmt} {f:Addr} {fd:Um} {ps:List Rx} (F:Fun K x qual st f fd)
  (h:∀ (kV doc pm:Value) (an:Option Addr) (cdv ct:Value) (us:List Value),us.length=ps.length->WW (Vj x qual (fM st) (eY st) (aH st) .none kV doc pm an cdv ct) ⟨us,[]⟩=pure (ps.zip us)):Binds K fd ps []:=by
 obtain⟨oc,od,kV,doc,pm,an,cdv,ct,osl,rfl,lk,hcd⟩:=F.ex
 exact .all (h kV doc pm an cdv ct)
theorem HQ {x qual:Rx} {st:Stmt} {f:Addr} {oc:Value} {od an:Option Addr} {osl:Array (Option Value)} {kV doc pm cdv ct:Value} (l:K.lookup f=some ⟨oc,od,.func (Vj x qual (fM st) (eY st) (aH st) .none kV doc pm an cdv ct),osl⟩)
  (c:WX K cdv qual=true) (k:V6 K (.ref f)=true):Fun K x qual st f (Vj x qual (fM st) (eY st) (aH st) .none kV doc pm an cdv ct):=⟨⟨oc,od,kV,doc,pm,an,cdv,ct,osl,rfl,l,c⟩,k⟩
end
theorem aD {n:Nat} (h:n<=1000):n < sizeLine:=Uh h (by decide)
section
variable {X:Cx}
theorem pv (i:Nat) {x:Rx} {pos:Vo} (hN:X.N[i]? = some x:=by rfl) (hv:Vis X.env.scope x:=by first | exact Qm rfl | exact Wk (Qm rfl) | exact Wk (Wk rfl)) (hd:(x == ("__debug__" : Rx))=false:=by decide)
  (hcd:(x == ("__classdict__" : Rx))=false:=by decide):PE X (.Name x pos) (Nv i):=Mj hN hv hd hcd
end
theorem gG {A B:Prop} (h:B):if false=true then A else B:=by
 rw[if_neg Qc]
 exact h
theorem jw {A B:Prop} (h:A):if true=true then A else B:=by
 rw[if_pos rfl]
 exact h
theorem yS {c A B:Prop} [Decidable c] (h1:c->A) (h2:¬ c->B):if c then A else B:=by
 by_cases h:c
 ·rw[if_pos h]
  exact h1 h
 ·rw[if_neg h]
  exact h2 h
def aM (H H':Hp):Prop:=∀ b o,H b=some o->H' b=some o
theorem aM.refl (H:Hp):aM H H:=fun _ _ h=>h
theorem aM.trans {H H1 H2:Hp} (a:aM H H1) (b:aM H1 H2):aM H H2:=fun c o h=>b c o (a c o h)
theorem aM.free {H H':Hp} (e:aM H H') {l:Addr} (h:H' l=Option.none):H l=Option.none:=by
 cases q:H l with
 | none=>rfl
 | some o =>
  rw[e l o q] at h
  cases h
theorem aM.seq {K:Qi} {H H':Hp} {a:Addr} {xs:List V} (e:aM H H') (h:SqL K H a xs):SqL K H' a xs:=by
 rcases h with (h | ⟨o,h⟩) | h
 ·exact .inl (.inl (e _ _ h))
 ·exact .inl (.inr ⟨o,e _ _ h⟩)
 ·exact .inr h
end L2
set_option maxHeartbeats 4000000
namespace L2
open PySem PySem.Spec PyProof.Rows
theorem zr {env:Env}:∀ {names:List (Rx × V7)} {x:Rx},names.lookup x=some .free →
  (names.map fun (n,k)=>if (k == R9 && env.scope.kind == .function && env.kindOf n == some .cell) then (n,W8) else (n,k)).lookup x=some .cell ∨
  (names.map fun (n,k)=>if (k == R9 && env.scope.kind == .function && env.kindOf n == some .cell) then (n,W8) else (n,k)).lookup x=some .free
 | [],_,h=>by simp at h
 | (n,k)::r,x,h=>by
  have ih:=@zr env r x
  rw[QM]
  cases hx:x == n with
  | true =>
   rw[Rr,hx] at h
   cases h
   by_cases hc:(R9 == R9 && env.scope.kind == .function && env.kindOf n == some .cell)=true
   ·refine .inl ?_
    dsimp only
    rw[if_pos hc,Rr,hx]
   ·refine .inr ?_
    dsimp only
    rw[if_neg hc,Rr,hx]
  | false =>
   rw[Rr,hx] at h
   dsimp only
   by_cases hc:(k == R9 && env.scope.kind == .function && env.kindOf n == some .cell)=true
   ·rw[if_pos hc,Rr,hx]; exact ih h
   ·rw[if_neg hc,Rr,hx]; exact ih h
theorem vG {env:Env}:∀ {names:List (Rx × V7)} {x:Rx} {k':V7},
  (names.map fun (n,k)=>if (k == R9 && env.scope.kind == .function && env.kindOf n == some .cell) then (n,W8) else (n,k)).lookup x=some k'->names.lookup x=some k'∨names.lookup x=some .free
 | [],_,_,h=>by simp at h
 | (n,k)::r,x,k',h=>by
  have ih:=@vG env r x k'
  rw[QM] at h
  dsimp only at h
  cases hx:x == n with
  | true =>
   rw[Rr,hx]
   by_cases hc:(k == R9 && env.scope.kind == .function && env.kindOf n == some .cell)=true
   ·have hk:k = .free:=by
     rw[Rz,Rz] at hc
     exact eq_of_beq hc.1.1
    exact .inr (by rw[hk])
   ·rw[if_neg hc,Rr,hx] at h
    exact .inl h
  | false =>
   rw[Rr,hx]
   by_cases hc:(k == R9 && env.scope.kind == .function && env.kindOf n == some .cell)=true
   ·rw[if_pos hc,Rr,hx] at h; exact ih h
   ·rw[if_neg hc,Rr,hx] at h; exact ih h
theorem uJ {env:Env}:∀ (names:List (Rx × V7)) (acc:List (Rx × Addr)),(∀ y∈names,y.2 = .free->∃ c,env.cells.lookup y.1=some c)->(∀ n c,acc.lookup n=some c->env.cells.lookup n=some c) →
  ∃ cl,(forIn names acc (fun (x:Rx × V7) (r:List (Rx × Addr))=>(match x with | (name,kind)=>if (kind == R9)=true then (do let c ← cellOf env name; pure (Ve ((name,c)::r))) else pure (Ve r):Sem (ForInStep (List (Rx × Addr))))))=pure cl ∧
   (∀ n c,cl.lookup n=some c->env.cells.lookup n=some c)/\(∀ n c,acc.lookup n=some c->∃ c',cl.lookup n=some c')/\∀ y∈names,y.2 = .free->∃ c,cl.lookup y.1=some c
 | [],acc,_,h=>⟨acc,by rw[Vl],h,fun _ c e=>⟨c,e⟩,fun y hy=>by simp at hy⟩
 | (n,k)::r,acc,hf,h=>by
  rw[Vc]
  dsimp only
  by_cases hk:(k == R9)=true
  ·rw[if_pos hk]
   have hk':k = .free:=eq_of_beq hk
   obtain⟨c,hc⟩:=hf (n,k) Qa hk'
   have hc:env.cells.lookup n=some c:=hc
   have ec:cellOf env n=pure c:=by unfold cellOf; rw[hc]
   have h2:∀ m d,((n,c)::acc).lookup m=some d->env.cells.lookup m=some d:=fun m d e=>by
    rw[Rr] at e
    cases hx:m == n with
    | true=>rw[hx] at e; cases e; rw[eq_of_beq hx]; exact hc
    | false=>rw[hx] at e; exact h m d e
   obtain⟨cl,e1,e2,e3,e4⟩:=uJ r ((n,c)::acc) (fun y hy=>hf y (Qg _ hy)) h2
   refine⟨cl,by rw[ec,pure_bind,pure_bind]; exact e1,e2,fun m d e=>?_,fun y hy hyf=>?_⟩
   ·refine (match hx:m == n with | true=>e3 m c (by rw[Rr,hx]) | false=>e3 m d (by rw[Rr,hx]; exact e))
   ·rcases List.mem_cons.mp hy with rfl | hy
    ·exact e3 n c (by rw[Rr,beq_self_eq_true])
    ·exact e4 y hy hyf
  ·rw[if_neg hk]
   obtain⟨cl,e1,e2,e3,e4⟩:=uJ r acc (fun y hy=>hf y (Qg _ hy)) h
   refine⟨cl,by rw[pure_bind]; exact e1,e2,e3,fun y hy hyf=>?_⟩
   rcases List.mem_cons.mp hy with rfl | hy
   ·exact absurd (by rw[show k=R9 from hyf]; rfl) hk
   ·exact e4 y hy hyf
theorem CN {scope:Vi} {env:Env} (h:∀ y∈scope.names,y.2 = .free->∃ c,env.cells.lookup y.1=some c) :
  ∃ cl,closureFor scope env=pure cl/\(∀ n c,cl.lookup n=some c->env.cells.lookup n=some c)/\∀ y∈scope.names,y.2 = .free->∃ c,cl.lookup y.1=some c:=by
 obtain⟨cl,e1,e2,_,e4⟩:=uJ scope.names [] h (fun _ _ e=>by simp at e)
 refine⟨cl,?_,e2,e4⟩
 unfold closureFor
 first
  | exact e1
  | (rw[← bind_pure (x:=pure cl),← e1]; rfl)
  | (simp only[bind_pure]; exact e1)
def dz (X:Cx) (scope:Vi) (cl:List (Rx × Addr)) (C:Addr) (N:List Rx) (s:PB) (H:Hp) (fp:List Addr):Cx :=
 {X with N:=N,s₀:=s,H₀:=H,env:=compEnvC scope cl C X.env,outer:=X.stack,ex:=fp,fn:=fun _=>false,pn:=[],xe:=fun _ _=>False }
structure rG (X:Cx) (scope:Vi) (F:List Rx) (cap:List Nat):Prop where
 kind:scope.kind = .function
 cell:∀ y∈scope.names,y.2≠.cell
 nms:∀ y∈scope.names,y.2 = .local->scope.names.lookup y.1=some .local
 fr:∀ y∈scope.names,y.2 = .free->X.env.kindOf y.1=some .cell∨X.env.kindOf y.1=some .free
 len:cap.length=F.length
 at':∀ (k:Nat) (x:Rx),F[k]? = some x->∃ i,cap[k]? = some i/\X.N[i]? = some x/\scope.names.lookup x=some .free
def PTs (X:Cx) (ifs:List Expr) (t:TT):Prop :=
 ∀ (pins:List (Addr × Tv)) (s:PB) (σ:St) (H:Hp) (Q:Bool->Hp->Prop),Inv X pins σ H s->t σ H Q →
  Qd (Qt X.prog X.w) X.A (forIn ifs true fun c r=>if r=true then do let ok ← isTrue c X.env (Tc c X.env); pure (Ve ok) else pure (Ve r)) (TP X pins σ Q) X.xe s
def JC:TT:=fun _ H Q=>Q true H
theorem bC {X:Cx}:PTs X [] JC:=fun _ _ _ H _ I h=>wpAny_tests_nil ⟨H,I,h⟩
theorem vR {X:Cx} {c:Expr} {t:TT} (hc:PT X c t):PTs X [c] t:=fun pins s σ H Q I h=>wpAny_tests_one (hc pins s σ H Q I h)
theorem yK {prog:Qx} {w:QG} {A:QK} {R:Xd->PB->Prop} {s:PB} {elt target iter:Expr} {ifs:List Expr} {scope:Vi} {pos:Vo} {it acc:Value} {env:Env} (I:Nat->PB->Prop)
  (turn:∀ n s,I n s->Qd (Qt prog w) A (Th it) (fun r s₁=>match r with
   | none=>R (.ok .next) s₁
   | some v=>Qd (Qt prog w) A (WL target it v) (fun _ s₀=>Qd (Qt prog w) A (assign target env v) (fun _ s₂ =>
     Qd (Qt prog w) A (forIn ifs true fun c r=>if r=true then do let ok ← isTrue c env (Tc c env); pure (Ve ok) else pure (Ve r)) (fun ok s₃ =>
      if ok=true then Qd (Qt prog w) A (Tc elt env) (fun x s₄=>Qd (Qt prog w) A (call (.builtin "list.append") [acc,x]) (fun _ s₅=>∃ m,m < n/\I m s₅) (fun _ _=>False) s₄) (fun _ _=>False) s₃
      else ∃ m,m < n/\I m s₃) (fun _ _=>False) s₂) (fun _ _=>False) s₀) (fun _ _=>False) s₁) (fun _ _=>False) s)
  (n:Nat) (h:I n s):U0 (Qt prog w) A (.compLoop (.ListComp elt [⟨target,iter,ifs,0⟩] scope pos) 0 it acc env) R s:=by
 have no:∀ {E:Value->PB->Prop} (x:Value) (s':PB),(fun (_:Value) (_:PB)=>False) x s'->E x s':=fun _ _ z=>z.elim
 refine codeAny_loop rfl I (fun n s hI=>?_) n h
 refine (show Qd (Qt prog w) A ((compTurn (.ListComp elt [⟨target,iter,ifs,0⟩] scope pos) 0 it acc env).onRaise (fun x=>do noteFrame x env; theTreesLotGoes x)) _ _ s from wpAny_noted ?_)
 rw[compTurn_list]
 refine Px (wpAny_standAt (Px (SJ (turn n s hI) (fun r s₁ h₁=>?_) no)))
 cases r with
 | none=>exact PK h₁
 | some v =>
  refine Px (SJ h₁ (fun _ s₀ h₀=>Px (SJ h₀ (fun _ s₂ h₂=>Px (SJ h₂ (fun ok s₃ h₃=>?_) no)) no)) no)
  cases ok with
  | false=>exact PK ⟨rfl,h₃⟩
  | true=>exact Px (Px (SJ h₃ (fun x s₄ h₄=>Px (SJ h₄ (fun _ s₅ h₅=>PK (PK ⟨rfl,h₅⟩)) no)) no))
def gA (D:Addr) (σ0:St) (J:It) (g:TG) (tt:TT) (te:TE) (H1:Hp) (Q:Hp->Prop):Prop :=
 ∃ W:Nat->Nat->List V->St->Hp->Prop,(∃ m,W 0 m [] σ0 (upd H1 D (.lst []))) ∧
  ∀ i m ys σ' H',W i m ys σ' H'->H' D=some (.lst ys)/\((J.stop i H'/\Q H')∨(J.go i H'/\∃ N:List V->St->Hp->Prop,(∀ zs σ2 H2,N zs σ2 H2->∃ m',m' < m/\W (i+1) m' zs σ2 H2) ∧
   ∀ x H2,J.yld i H' x H2->g x σ' H2 fun σ3 H3=>tt σ3 H3 fun b H4=>if b=true then te σ3 H4 fun y H5=>H5 D=some (.lst ys)/\ys.length < sizeLine/\N (ys++[y]) σ3 (upd H5 D (.lst (ys++[y]))) else N ys σ3 H4))
def Lh (n:Nat) (cap:List Nat) (σ:St):St:=Qh n none++cap.map fun i=>(σ[i]?).join
def Ni (n:Nat) (cap:List Nat) (wi:TI) (g:TG) (tt:TT) (te:TE):TE:=fun σ H Q=>wi σ H fun J H1=>∀ D,H1 D=none->gA D (Lh n cap σ) J g tt te H1 fun H2=>Q (.ref D) H2
section
variable {X:Cx} {elt tg iter:Expr} {ifs:List Expr} {scope:Vi} {pos:Vo} {L F:List Rx} {cap:List Nat} {wi:TI} {g:TG} {tt:TT} {te:TE}
theorem zq {pins:List (Addr × Tv)} {σ:St} {H:Hp} {s:PB} (I:Inv X pins σ H s) {b:Addr} (h1:b≠X.env.locals) (h2:b ∉ X.fs):b ∉ frs X.stack:=fun z=>(List.mem_cons.mp (I.Dk b z)).elim h1 h2
theorem yI {cl:List (Rx × Addr)} {pins:List (Addr × Tv)} {σ:St} {H:Hp} {s:PB} {fp:List Addr} {h₁:Rb} {tk:Nat} (ok:rG X scope F cap) (I:Inv X pins σ H s) (hfp:∀ b∈fp,uO X pins H b/\b < s.heap.objs.size)
  (sub:∀ n c,cl.lookup n=some c->X.env.cells.lookup n=some c) (all:∀ y∈scope.names,y.2 = .free->∃ c,cl.lookup y.1=some c)
  (ns:h₁.Ns s.heap.objs.size fun _=>none) (kp:∀ b o,s.heap.get? b=some o->h₁.get? b=some o) :
  Inv (dz X scope cl s.heap.objs.size (L++F) s H fp) [] (Lh L.length cap σ) H { s with heap:=h₁,toks:=tk }:=by
 have frk:∀ x,scope.names.lookup x=some .free->X.env.kindOf x=some .cell∨X.env.kindOf x=some .free:=fun x e=>ok.fr (x,.free) (RV e) rfl
 have okX:(dz X scope cl s.heap.objs.size (L++F) s H fp).Ok:=by
  refine⟨I.ok.mod,ok.kind,I.ok.glob,I.ok.blt,PX _,fun x y c e1 e2=>I.ok.inj x y c (sub x c e1) (sub y c e2),fun x hx=>?_,fun x c hx _=>?_,I.ok.hd,I.ok.frames,.inl rfl,fun b hb=>?_,I.bs,Q6 I.ok.bsz I.sz,fun b o e hb=>?_,fun b hb=>?_,I.stack,I.BW⟩
  ·have e:scope.names.lookup x=some .free:=by
    rcases hx with hx | hx
    ·rcases vG (env:=X.env) (show _=some W8 from hx) with e | e
     ·exact absurd rfl (ok.cell _ (RV e))
     ·exact e
    ·rcases vG (env:=X.env) (show _=some R9 from hx) with e | e <;> exact e
   exact all (x,.free) (RV e) rfl
  ·exact absurd (show false=true from hx) Qc
  ·exact⟨Qv (hfp b hb).2,fun x c e=>(hfp b hb).1.2.2.2.2.1 x c (sub x c e)⟩
  ·obtain⟨_,_,_,f3,_⟩:=(hfp b hb).1
   rcases f3 with z | z
   ·exact I.ok.noex b o e z
   ·exact absurd (Qp (Qf e) (Q6 I.ok.bsz z)) (S8 _)
  ·obtain⟨_,f1,f2,_⟩:=(hfp b hb).1
   exact zq I f1 f2
 refine⟨okX,rfl,I.bare,Un.kept kp,⟨_,ns,fun i x v e1 e2 e3=>?_⟩,fun x c e=>?_,I.hok.fresh (PX _),fun x c e=>I.freeC x c (sub x c e),fun p hp=>absurd (show p∈([]:List (Addr × Tv)) from hp) (by simp),I.hok.kept kp,?_⟩
 ·have e1:(L++F)[i]? = some x:=e1
  have e2:(Qh L.length none++cap.map fun i=>(σ[i]?).join)[i]? = some (some v):=e2
  have hL:¬ i < L.length:=fun hi=>by
   rw[List.getElem?_append_left (by simpa using hi),T9] at e2
   split at e2 <;> cases e2
  have hi:L.length<=i:=Nat.le_of_not_lt hL
  rw[V9 hi] at e1
  rw[V9 (by simpa using hi),Rj,Qn] at e2
  obtain⟨j,hj,hN,hk⟩:=ok.at' _ _ e1
  rw[hj] at e2
  have e4:(σ[j]?).join=some v:=by simpa using e2
  have e5:σ[j]? = some (some v):=by
   cases q:σ[j]? with
   | none=>rw[q] at e4; cases e4
   | some a=>rw[q] at e4; exact congrArg some e4
  obtain⟨m,hn,hl⟩:=I.loc
  have kd:=frk x hk
  obtain⟨u,r,lk⟩:=hl j x v hN e5 (kd.elim (fun z=>.inr (.inl z)) fun z=>.inr (.inr z))
  obtain⟨c,hc,hcell⟩:∃ c,X.env.cells.lookup x=some c/\s.heap.IsCell c (some u):=by
   rcases lk with⟨z,_⟩ | ⟨_,c,z1,z2⟩
   ·rcases kd with y | y <;> (rw[y] at z; cases z)
   ·exact⟨c,z1,z2⟩
  obtain⟨c',hc'⟩:=all (x,.free) (RV hk) rfl
  have ec:c'=c:=by
   have:=sub x c' hc'
   rw[hc] at this
   exact (QJ this).symm
  subst ec
  obtain⟨o,ho,hd⟩:=hcell
  exact⟨u,r,.inr ⟨(zr (env:=X.env) hk),c',hc',o,kp _ _ ho,hd⟩⟩
 ·obtain⟨v,o,ho,hd⟩:=I.cell x c (sub x c e)
  exact⟨v,o,kp _ _ ho,hd⟩
 ·show (Qh L.length (none:Option V)++cap.map fun i=>(σ[i]?).join).length=(L++F).length
  rw[Qj,Qj,Rj,Py,ok.len]
theorem xg {cl:List (Rx × Addr)} {pins:List (Addr × Tv)} {σ:St} {s2:PB} {H2:Hp} {it:Addr} {fp:List Addr} {tn:Nat->Rb->Prop} {J:It} {use:Option (Value->Sem Unit)} {QQ:Value->PB->Prop} {Z:Hp->Prop} {E:Value->PB->Prop}
  (hc:X.calm=true) (ok:rG X scope F cap)
  (sub:∀ n c,cl.lookup n=some c->X.env.cells.lookup n=some c) (all:∀ y∈scope.names,y.2 = .free->∃ c,cl.lookup y.1=some c)
  (hg:∀ cl C s H fp,PG (dz X scope cl C (L++F) s H fp) tg g) (ht:∀ cl C s H fp,PTs (dz X scope cl C (L++F) s H fp) ifs tt) (he:∀ cl C s H fp,PE (dz X scope cl C (L++F) s H fp) elt te)
  (I2:Inv X pins σ H2 s2) (T:Turn X.prog X.w X.K tg J fp it tn) (st2:tn 0 s2.heap) (f2:∀ b∈fp,uO X pins H2 b)
  (q2:gA s2.heap.objs.size (Lh L.length cap σ) J g tt te H2 Z)
  (fin:∀ (C:Addr) (s':PB) (H':Hp),Z H'->Inv X pins σ H' s'->(∃ m,s'.heap.Ns C m)->H' C=none->C≠X.env.locals->X.s₀.heap.objs.size<=C->(∀ x c,X.env.cells.lookup x=some c->c≠C)->(∀ p∈X.pn++pins,p.1≠C) →
   compPost (Qt X.prog X.w) X.A E use QQ (.ref s2.heap.objs.size) C (.ok .next) s') :
  Qd (Qt X.prog X.w) X.A (newList []) (fun acc s₃=>Qd (Qt X.prog X.w) X.A (newFunctionEnv scope X.env.globals cl [] X.env.qual none .none (some X.env)) (fun cenv s₄ =>
   U0 (Qt X.prog X.w) X.A (.compStart (.ListComp elt [⟨tg,iter,ifs,0⟩] scope pos) 0 (.ref it) acc { cenv with scope:=relabel scope X.env }) (compPost (Qt X.prog X.w) X.A E use QQ acc cenv.locals) s₄) E s₃) E s2:=by
 have hD:H2 s2.heap.objs.size=none:=I2.fresh
 refine QL (wpAny_newFunctionEnv ok.cell (by intro y hy; simp at hy) (fun h₁ hns₁ hsb₁=>?_) ok.kind)
 dsimp only at hns₁ hsb₁ ⊢
 have I3:Inv X pins σ (upd H2 s2.heap.objs.size (.lst [])) { s2 with heap:=s2.heap.push { cls:=.type "list",data:=.seq ([]:List Value).toArray } }:=I2.Nj (t':=s2.toks) (ys:=[]) (its:=[]) .nil (QB _)
 have blt:∀ b∈fp,b < s2.heap.objs.size:=fun b hb=>let ⟨_,e,_⟩:=T.obj 0 _ st2 b hb; Qf e
 have szC:(s2.heap.push { cls:=.type "list",data:=.seq ([]:List Value).toArray }).objs.size=s2.heap.objs.size+1:=Q7 _ _
 generalize hs3:({ s2 with heap:=s2.heap.push { cls:=.type "list",data:=.seq ([]:List Value).toArray } }:PB)=s3 at I3
 have es3:s3.heap=s2.heap.push { cls:=.type "list",data:=.seq ([]:List Value).toArray }:=by rw[← hs3]
 have eos:s3.os=s2.os:=by rw[← hs3]
 have fok:∀ b∈fp,uO X pins (upd H2 s2.heap.objs.size (.lst [])) b/\b < s3.heap.objs.size:=fun b hb=>by
  obtain⟨f0,fr⟩:=f2 b hb
  refine⟨⟨by rw[bx (Qv (blt b hb))]; exact f0,fr⟩,?_⟩
  rw[es3,szC]
  exact RB (blt b hb)
 have hkp:∀ b o,s3.heap.get? b=some o->h₁.get? b=some o:=fun b o e=>by
  have e':b < s3.heap.objs.size:=Qf e
  rw[es3] at e e'
  exact (hsb₁.2 b (Qv e')).trans (Pz _ e)
 have hns:h₁.Ns s3.heap.objs.size fun _=>none:=by
  rw[es3]
  exact hns₁
 have I4:∀ tk,Inv (dz X scope cl s3.heap.objs.size (L++F) s3 (upd H2 s2.heap.objs.size (.lst [])) fp) [] (Lh L.length cap σ) (upd H2 s2.heap.objs.size (.lst [])) { s3 with heap:=h₁,toks:=tk }:=fun tk =>
  yI (L:=L) ok I3 fok sub all hns hkp
 have stat:∀ {H':Hp},(∀ b∈fp,H' b=none)->∀ b∈fp,uO (dz X scope cl s3.heap.objs.size (L++F) s3 (upd H2 s2.heap.objs.size (.lst [])) fp) [] H' b:=fun {H'} hn b hb=>by
  obtain⟨⟨_,g1,g2,g3,g4,g5⟩,g6⟩:=fok b hb
  exact⟨hn b hb,Qv g6,zq I3 g1 g2,.inl hb,fun x c e=>g4 x c (sub x c e),fun p hp=>absurd (show p∈([]:List (Addr × Tv)) from hp) (by simp)⟩
 have loop:∀ tk,U0 (Qt X.prog X.w) X.A (.compLoop (.ListComp elt [⟨tg,iter,ifs,0⟩] scope pos) 0 (.ref it) (.ref s2.heap.objs.size) (compEnvC scope cl s3.heap.objs.size X.env))
   (compPost (Qt X.prog X.w) X.A E use QQ (.ref s2.heap.objs.size) s3.heap.objs.size) { s3 with heap:=h₁,toks:=tk }:=fun tk=>by
  obtain⟨W,⟨m0,w0⟩,turn⟩:=q2
  have st3:tn 0 h₁:=T.keep 0 _ _ st2 fun b hb o e=>hkp b o (by rw[es3]; exact Pz _ e)
  refine yK (fun n s'=>∃ i ys σ' H',Inv (dz X scope cl s3.heap.objs.size (L++F) s3 (upd H2 s2.heap.objs.size (.lst [])) fp) [] σ' H' s'/\tn i s'.heap/\(∀ b∈fp,H' b=none)/\W i n ys σ' H') ?_ m0
   ⟨0,[],_,_,I4 tk,st3,fun b hb=>(fok b hb).1.1,w0⟩
  rintro n s5 ⟨i,ys,σ5,H5,I5,st5,fr5,w5⟩
  obtain⟨hDl,alt⟩:=turn i n ys σ5 H5 w5
  rcases alt with⟨stop,qz⟩ | ⟨go,N,hN,step⟩
  ·refine thn (T.done (dz X scope cl s3.heap.objs.size (L++F) s3 (upd H2 s2.heap.objs.size (.lst [])) fp) rfl rfl rfl hc i [] s5 σ5 H5 _ I5 (stat fr5) st5 stop) fun r s6 ⟨hr,I6⟩=>?_
   subst hr
   have un:Un (frs X.stack) fp H2 H5 s2.heap s6.heap:=by
    have u1:Un (frs X.stack) fp H2 (upd H2 s2.heap.objs.size (.lst [])) s2.heap s3.heap:=by
     rw[es3]
     exact Un.laid (fun _ _ q=>Pz _ q) (PX _) hD
    exact u1.trans I6.base
   have J1:Inv X pins σ H5 s6:=I2.call' (I6.os.trans eos) un I6.hok I6.bare fun b hb=>by
    obtain⟨_,g1,_,g3,g4,g5⟩:=f2 b hb
    exact⟨g3,g1,g4,g5⟩
   have hC:s2.heap.objs.size<=s3.heap.objs.size:=by rw[es3,szC]; exact Tq _
   obtain⟨m,hm,_⟩:=I6.loc
   refine fin s3.heap.objs.size s6 H5 qz J1 ⟨m,hm⟩ I6.free (R6 (Qp I2.lt hC)) (Q6 I2.sz hC) (fun x c e z=>?_) (fun p hp z=>?_)
   ·obtain⟨v,q⟩:=I2.cell x c e
    exact absurd (Qp q.lt (by rw[z]; exact hC)) (S8 _)
   ·exact absurd (Qp (Qf (I2.pin p hp).1) (by rw[z]; exact hC)) (S8 _)
  ·refine thn (T.item (dz X scope cl s3.heap.objs.size (L++F) s3 (upd H2 s2.heap.objs.size (.lst [])) fp) rfl rfl rfl hc i [] s5 σ5 H5 _ I5 (stat fr5) st5 go) fun r s6 ⟨u,hr,h6⟩=>?_
   subst hr
   refine thn h6 fun _ s7 ⟨x,H7,I7,r7,y7,st7,fr7⟩=>?_
   have I7':=I7.pinned (stat fr7) (T.obj _ _ st7)
   refine thn (hg _ _ _ _ _ _ s7 σ5 H7 x u _ I7' r7 (step x H7 y7)) fun _ s8 ⟨σ8,H8,I8,q8⟩=>?_
   have again:∀ {σ9:St} {H9:Hp} {s9:PB} {zs:List V},Inv (dz X scope cl s3.heap.objs.size (L++F) s3 (upd H2 s2.heap.objs.size (.lst [])) fp) ([]++ug fp s7.heap) σ9 H9 s9->N zs σ9 H9 →
     ∃ m,m < n/\∃ i ys σ' H',Inv (dz X scope cl s3.heap.objs.size (L++F) s3 (upd H2 s2.heap.objs.size (.lst [])) fp) [] σ' H' s9/\tn i s9.heap/\(∀ b∈fp,H' b=none)/\W i m ys σ' H':=fun {σ9 H9 s9 zs} I9 n9=>by
    obtain⟨m',hm,w9⟩:=hN zs σ9 H9 n9
    refine⟨m',hm,i+1,zs,σ9,H9,I9.lY,T.keep _ _ _ st7 fun b hb o e=>(I9.pin (b,o) (Rv _ (Rv _ (iQ hb e)))).1,fun b hb=>?_,w9⟩
    obtain⟨o,e,d⟩:=T.obj _ _ st7 b hb
    exact (I9.pin (b,o) (Rv _ (Rv _ (iQ hb e)))).2.1
   refine thn (ht _ _ _ _ _ _ s8 σ8 H8 _ I8 q8) fun okb s9 ⟨H9,I9,q9⟩=>?_
   cases okb with
   | false =>
    rw[if_neg Qc] at q9 ⊢
    exact again I9 q9
   | true =>
    rw[if_pos rfl] at q9 ⊢
    refine thn (he _ _ _ _ _ _ s9 σ8 H9 _ I9 q9) fun y s10 ⟨yv,H10,I10,r10,e10,z10,n10⟩=>?_
    refine thn (cP _ s10 σ8 H10 (.ref s2.heap.objs.size) [yv] (.ref s2.heap.objs.size) [y] (fun _ H'=>N (ys++[yv]) σ8 H') I10 rfl (.cons r10 .nil) ⟨_,ys,yv,rfl,rfl,e10,z10,n10⟩) fun _ s11 ⟨_,H11,I11,_,n11⟩=>?_
    exact again I11 n11
 have eC:(s2.heap.push { cls:=.type "list",data:=.seq ([]:List Value).toArray }).objs.size=s3.heap.objs.size:=by rw[es3]
 have goal:∀ tk,U0 (Qt X.prog X.w) X.A (.compStart (.ListComp elt [⟨tg,iter,ifs,0⟩] scope pos) 0 (.ref it) (.ref s2.heap.objs.size) (compEnvC scope cl s3.heap.objs.size X.env))
   (compPost (Qt X.prog X.w) X.A E use QQ (.ref s2.heap.objs.size) s3.heap.objs.size) { s3 with heap:=h₁,toks:=tk }:=fun tk =>
  codeAny_compStart_list (loop tk) (T.self _ 0 _ _ _ (T.keep 0 _ _ st2 fun b hb o e=>hkp b o (by rw[es3]; exact Pz _ e)) (loop tk))
 have g0:=goal (s2.toks+([]:List (Rx × Value)).length)
 subst hs3
 exact g0
theorem bA (hc:X.calm=true) (ok:rG X scope F cap) (hi:PI X tg iter wi)
  (hg:∀ cl C s H fp,PG (dz X scope cl C (L++F) s H fp) tg g) (ht:∀ cl C s H fp,PTs (dz X scope cl C (L++F) s H fp) ifs tt) (he:∀ cl C s H fp,PE (dz X scope cl C (L++F) s H fp) elt te)
  (hs:∀ x,Xk iter X.env x=pure x:=by intro _; rfl):PE X (.ListComp elt [⟨tg,iter,ifs,0⟩] scope pos) (Ni L.length cap wi g tt te):=by
 intro pins s σ H Q I h
 obtain⟨cl,e1,e2,e3⟩:=CN (scope:=scope) (env:=X.env) (fun y hy hf=>I.ok.has _ (ok.fr y hy hf))
 rw[eval_ListComp]
 refine wpAny_comprehension_free (use:=none) rfl hs e1 ok.kind ok.nms (thn (hi pins s σ H _ I h) fun v s1 h1=>thn h1 fun itv s2 h2=>?_)
 obtain⟨it,fp,tn,J,H2,e,I2,T,st2,f2,q2⟩:=h2
 subst e
 refine xg (Z:=fun H'=>Q (.ref s2.heap.objs.size) H') hc ok e2 e3 hg ht he I2 T st2 f2 (q2 _ I2.fresh) fun C s' H' z J m hCf hCl hCs hCc hCp=>?_
 ·obtain⟨m,hm⟩:=m
  exact⟨m,hm,fun h' hs'=>⟨.ref _,H',J.turned (t':=s'.toks) (fun b o hb e=>(hs'.2 b hb).trans e) hCf hCl (.inr hCs) hCc hCp,rfl,z⟩⟩
def Lw (n:Nat) (cap:List Nat) (wi:TI) (g:TG) (tt:TT) (te:TE) (j:Nat):TS:=fun D σ H=>wi σ H fun J H1=>∀ d,H1 d=none->gA d (Lh n cap σ) J g tt te H1 fun H2=>D.nx (σ.set j (some (.ref d))) H2
theorem Bp {j:Nat} {y:Rx} {py spos:Vo} (hN:X.N.Nodup) (hj:X.N[j]? = some y) (hy:Loc X.env.scope y) (hc:X.calm=true) (ok:rG X scope F cap) (hi:PI X tg iter wi)
  (hg:∀ cl C s H fp,PG (dz X scope cl C (L++F) s H fp) tg g) (ht:∀ cl C s H fp,PTs (dz X scope cl C (L++F) s H fp) ifs tt) (he:∀ cl C s H fp,PE (dz X scope cl C (L++F) s H fp) elt te)
  (hsw:swapsWith (.ListComp elt [⟨tg,iter,ifs,0⟩] scope pos) (some (.Name y py)) spos.line X.env=pure true:=by rfl)
  (hs:∀ x,Xk iter X.env x=pure x:=by intro _; rfl) (hf:X.fn y=true∨X.env.scope.names.lookup y=some .local:=by first | exact .inl rfl | exact .inr rfl | assumption) :
  PS X (.Assign [.Name y py] (.ListComp elt [⟨tg,iter,ifs,0⟩] scope pos) spos) (Lw L.length cap wi g tt te j):=by
 intro pins s σ H D I h
 obtain⟨cl,e1,e2,e3⟩:=CN (scope:=scope) (env:=X.env) (fun y hy hf=>I.ok.has _ (ok.fr y hy hf))
 rw[exec_Assign_Name_used _ _ _ _ hsw]
 refine Px (wpAny_standAt (Px ?_))
 show Qd (Qt X.prog X.w) X.A (do let _ ← comprehension (.ListComp elt [⟨tg,iter,ifs,0⟩] scope pos) scope X.env _ (newList []) false (Tc iter X.env) (some (assign (.Name y py) X.env))) _ _ s
 refine Px (SJ (wpAny_comprehension_free (use:=some (assign (.Name y py) X.env)) (Q:=fun _ s'=>SP X pins D .next s') rfl hs e1 ok.kind ok.nms
  (thn (hi pins s σ H _ I h) fun v s1 h1=>thn h1 fun itv s2 h2=>?_)) (fun _ s' hq=>PK (PK hq)) fun _ _ e=>e)
 obtain⟨it,fp,tn,J,H2,e,I2,T,st2,f2,q2⟩:=h2
 subst e
 refine xg (Z:=fun H'=>D.nx (σ.set j (some (.ref s2.heap.objs.size))) H') hc ok e2 e3 hg ht he I2 T st2 f2 (q2 _ I2.fresh) fun C s' H' z J m hCf hCl hCs hCc hCp=>?_
 obtain⟨m,hm⟩:=m
 refine wpAny_assign_Name (sG J hN hj hy (v:=.ref s2.heap.objs.size) rfl (fun s5 I5 hs5=>?_) hf)
 obtain⟨a,sb,ha⟩:=hs5
 have hne:C≠a:=by
  rcases ha with rfl | ha
  ·exact hCl
  ·exact TF (hCc y a ha)
 exact⟨m,hm.sameBut sb hne,fun h' hs'=>⟨_,H',I5.turned (t':=s5.toks) (fun b o hb e=>(hs'.2 b hb).trans e) hCf hCl (.inr hCs) hCc hCp,z⟩⟩
end
end L2
namespace L2
open PySem PySem.Spec PyProof.Rows
structure Df (P:Qx) (w:QG) (K:Qi) (mg:Rx->Option Value) (base:Rb) (x:Rx) (k:Nat) (ps:List Rx) (sp:Sp):Prop where
 ex:∃ (f:Addr) (fd:Um),fj P w K mg base CX0 k f fd ps sp/\mg x=some (.ref f)/\V6 K (.ref f)=true/\Binds K fd ps []
section
variable {X:Cx} {k j:Nat} {x:Rx} {ps:List Rx} {sp:Sp} {p pos:Vo} {e:Expr} {es:List Expr} {t:TA}
theorem aY (D:Df X.prog X.w X.K X.mg X.base x k ps sp) (hr:oF j X.A) (ha:PA X (e::es) t) (hk:k<=j:=by first | decide | exact PX _ | lia) (hg:Gl X x:=by rfl)
  (hdb:(x == ("__debug__" : Rx))=false:=by decide) (he:Qz (e::es) X.env=(false,Tc e X.env)::Qz es X.env:=by rfl) (hpl:(Uq pos (Qz es X.env)).any (·.1)=false:=by rfl) :
  PE X (.Call (.Name x p) (e::es) [] pos) (Ls sp [] E0 t):=by
 obtain⟨f,fd,F,hm,hkp,hb⟩:=D.ex
 exact Jz F (hr.mono hk) hg hm hkp hb .nil Np ha hdb he hpl
theorem oE {T:String} (hm:X.mg x=none) (hv:Q5 x=some (.type T)) (hg:Gl X x:=by rfl) (hn:x≠"__name__":=by decide) (hd:(x == ("__debug__" : Rx))=false:=by decide):PE X (.Name x pos) (tC (.ty T)):=JS hg hm hv rfl hn hd
inductive K7 (K:Qu) (xs:List V) (H:Hp) (Q:VK):Prop where
 | mk (x:V) (T:String) (t:Value) (b:Bool) (z0:xs=[x,.ty T]) (z1:yQ K H x t) (z2:U8 K t (.type T)=some b) (z3:Q (.bl b) H):K7 K xs H Q
def Bc (K:Qu):List V->Hp->VK->Prop:=fun xs H Q=>K7 K xs H Q
theorem eN:iy X (.builtin "isinstance") (Bc X.K):=by
 intro pins s σ H xs us Q I r h
 obtain⟨x,T,t,b,rfl,ty,e,q⟩:=h
 obtain⟨u,v,rfl,ru,rv⟩:=vals2 r
 cases (show v=Ug T from rv)
 exact Bo I ru ty e fun tk=>⟨.bl b,H,I.tok tk,rfl,q⟩
def yg (K:Qu):List V->Hp->VK->Prop:=fun xs H Q=>∃ (p:Addr) (ys:List V),xs=[.ref p]/\(SqL K H p ys∨SqT K H p ys)/\Q (.int ys.length) H
theorem cC:iy X (.builtin "len") (yg X.K):=sE
def Bw (K:Qu):List V->Hp->VK->Prop:=fun xs H Q=>∃ (p:Addr) (ys:List V),xs=[.ref p]/\(SqL K H p ys∨SqT K H p ys)/\∀ l,H l=none->Q (.ref l) (upd H l (.lst ys))
theorem yX:iy X (.type "list") (Bw X.K):=rT
def fC (K:Qu):List V->Hp->VK->Prop:=fun xs H Q=>∃ (p:Addr) (ys:List V),xs=[.ref p]/\((SqL K H p ys/\∀ l,H l=none->Q (.ref l) (upd H l (.tup ys)))∨(SqT K H p ys/\Q (.ref p) H))
theorem bB:iy X (.type "tuple") (fC X.K):=qO
theorem iT:∀ bs:List Bool,(P0 bs.length).all (fun i=>bs.getD i true)=bs.all fun b=>b
 | []=>rfl
 | b::r=>by
  have ih:=iT r
  rw[Qo,List.range_succ_eq_map,Vv,List.all_map,Vv,← ih]
  rfl
inductive HX (K:Qu) (xs:List V) (H:Hp) (Q:VK):Prop where
 | mk (p:Addr) (bs:List Bool) (z0:xs=[.ref p]) (z1:SqL K H p (bs.map V.bl)) (z2:Q (.bl (bs.all fun b=>b)) H):HX K xs H Q
def JW (K:Qu):List V->Hp->VK->Prop:=fun xs H Q=>HX K xs H Q
theorem sW (hc:X.calm=true):iy X (.builtin "all") (JW X.K):=by
 intro pins s σ H xs us Q I r h
 obtain⟨p,bs,rfl,hq,q⟩:=h
 obtain⟨u,rfl,ru⟩:=vals1 r
 cases ru
 obtain⟨its,rv,pl,hz⟩:=I.list hq
 have hlen:bs.length=its.length:=by simpa using rv.length
 refine call_all_walk (Ut pl.isList ?_)
 have I1:Inv X pins σ H { s with heap:=s.heap.push { cls:=.type "list_iterator",data:=.fields #[.ref p,.int 0 0] } }:=I.kept (t':=s.toks) fun b o e=>Pz _ e
 have hne:p≠s.heap.objs.size:=by
  obtain⟨o,ho,_⟩:=pl.isList
  exact Qv (Qf ho)
 refine⟨s.heap.objs.size,_,_,_,_,_,fun i=>bs.getD i true,rfl,Walks.list (A:=X.A.in1) (I.ok.hd hc) s.heap.objs.size p hne its.toArray,⟨⟨_,PN _ rfl,rfl,rfl⟩,?_⟩,?_,fun h' tk hk=>?_⟩
 ·obtain⟨o,ho,hr⟩:=pl.isList
  exact⟨o,Pz _ ho,hr⟩
 ·intro i v s' Q' E' hP hQ
  have hP:its[i]? = some v:=by simpa using hP
  have hi:i < bs.length:=by
   rw[hlen]
   exact (List.getElem?_eq_some_iff.mp hP).1
  obtain⟨u',hu',ru'⟩:=rv.get (i:=i) (x:=V.bl bs[i]) (by rw[Qn,PJ hi]; rfl)
  rw[hP] at hu'
  cases hu'
  cases (show v=Value.bool bs[i] from ru')
  refine Tp ?_
  have eg:bs.getD i true=bs[i]:=by rw[PL,PJ hi]; rfl
  have hQ':Q' (bs.getD i true) s':=hQ
  rw[eg] at hQ'
  exact hQ'
 ·have f:=I.Ea (b:=s.heap.objs.size) (H':=H) (PX _) I.fresh
  have eall:(P0 its.toArray.size).all (fun i=>bs.getD i true)=bs.all fun b=>b:=by
   have el:its.toArray.size=bs.length:=by rw[Qe,hlen]
   rw[el]
   exact iT bs
  rw[eall]
  exact⟨.bl _,H,I1.turned (t':=tk) (it:=s.heap.objs.size) (fun b o hb e=>hk b o (by simpa using hb) e) f.1 f.2.1 f.2.2.2.1 f.2.2.2.2.1 f.2.2.2.2.2,rfl,q⟩
end
end L2
namespace L2
open PySem PySem.Spec PyProof.Rows
def Cg (osc:Vi) (oN:List Rx) (sc:Vi) (F:List Rx) (cap:List Nat):Bool :=
 decide (sc.kind = .function) && sc.names.all (fun y=>!decide (y.2 = .cell)) && sc.names.all (fun y=>!decide (y.2 = .local) || decide (sc.names.lookup y.1=some .local)) &&
 sc.names.all (fun y=>!decide (y.2 = .free) || decide (osc.names.lookup y.1=some .cell) || decide (osc.names.lookup y.1=some .free)) && decide (cap.length=F.length) &&
 (P0 F.length).all fun k=>(decide (F[k]? = none) || decide ((cap[k]?.bind fun i=>oN[i]?)=F[k]?)) && decide ((F[k]?.bind fun x=>sc.names.lookup x)=some .free)
theorem bj {X:Cx} {osc sc:Vi} {oN F:List Rx} {cap:List Nat} (ho:X.env.scope=osc) (hN:X.N=oN) (h:Cg osc oN sc F cap=true):rG X sc F cap:=by
 unfold Cg at h
 simp only[Rz] at h
 obtain⟨⟨⟨⟨⟨h1,h2⟩,h3⟩,h4⟩,h5⟩,h6⟩:=h
 refine⟨of_decide_eq_true h1,fun y hy e=>?_,fun y hy e=>?_,fun y hy e=>?_,of_decide_eq_true h5,fun k x e=>?_⟩
 ·have:=List.all_eq_true.mp h2 y hy
  rw[e] at this
  exact absurd this (by decide)
 ·have:=List.all_eq_true.mp h3 y hy
  rw[decide_eq_true e] at this
  exact of_decide_eq_true (by simpa using this)
 ·have:=List.all_eq_true.mp h4 y hy
  rw[decide_eq_true e] at this
  have z:decide (osc.names.lookup y.1=some .cell)=true∨decide (osc.names.lookup y.1=some .free)=true:=by
   rw[Bool.not_true,W9,Yd] at this
   exact this
  show X.env.scope.names.lookup y.1=_∨X.env.scope.names.lookup y.1=_
  rw[ho]
  exact z.elim (fun q=>.inl (of_decide_eq_true q)) fun q=>.inr (of_decide_eq_true q)
 ·have hk:k < F.length:=(List.getElem?_eq_some_iff.mp e).1
  have q:=List.all_eq_true.mp h6 k (List.mem_range.mpr hk)
  rw[e,Rz] at q
  obtain⟨q1,q2⟩:=q
  have q1:(cap[k]?.bind fun i=>oN[i]?)=some x:=by
   rw[Yd] at q1
   rcases q1 with z | z
   ·exact absurd (of_decide_eq_true z) (by simp)
   ·exact of_decide_eq_true z
  have q2:sc.names.lookup x=some .free:=of_decide_eq_true q2
  cases hc:cap[k]? with
  | none=>rw[hc] at q1; cases q1
  | some i =>
   rw[hc] at q1
   exact⟨i,rfl,by rw[hN]; exact q1,q2⟩
theorem aP {X:Cx} {scope:Vi} {cl:List (Rx × Addr)} {C:Addr} {N:List Rx} {s:PB} {H:Hp} {fp:List Addr} (h:N.Nodup):(dz X scope cl C N s H fp).N.Nodup:=h
section
variable {K:Qu} {a D:Addr} {xs:List V} {g:TG} {tt:TT} {te:TE} {H1:Hp} {Q:Hp->Prop} {σ0:St}
theorem fG (Pv:Nat->List V->St->Hp->Prop) (h0:Pv 0 [] σ0 (upd H1 D (.lst []))) (hl:∀ i ys σ H,i<=xs.length->Pv i ys σ H->SqT K H a xs/\H D=some (.lst ys))
  (hs:∀ i ys x σ H,xs[i]? = some x->Pv i ys σ H->g x σ H fun σ3 H3=>tt σ3 H3 fun b H4=>if b=true then te σ3 H4 fun y H5=>H5 D=some (.lst ys)/\ys.length < sizeLine/\Pv (i+1) (ys++[y]) σ3 (upd H5 D (.lst (ys++[y]))) else Pv (i+1) ys σ3 H4)
  (hd:∀ ys σ H,Pv xs.length ys σ H->Q H):gA D σ0 (Itt K a) g tt te H1 Q:=by
 refine⟨fun i m ys σ H=>m=xs.length - i/\i<=xs.length/\Pv i ys σ H,⟨xs.length,by simp,QB _,h0⟩,?_⟩
 rintro i m ys σ H ⟨rfl,hi,p⟩
 obtain⟨q,qD⟩:=hl i ys σ H hi p
 refine⟨qD,?_⟩
 by_cases hlt:i < xs.length
 ·refine .inr ⟨⟨xs,xs[i],q,by simp [hlt]⟩,Pv (i+1),fun zs σ' H' p'=>⟨xs.length - (i+1),by lia,rfl,hlt,p'⟩,fun x H' y=>?_⟩
  obtain⟨e,y⟩:=y
  subst e
  exact hs i ys x σ _ (y xs q) p
 ·have e:i=xs.length:=by lia
  subst e
  exact .inl ⟨⟨xs,q,PX _⟩,hd ys σ H p⟩
theorem cJ (Pv:Nat->List V->St->Hp->Prop) (h0:Pv 0 [] σ0 (upd H1 D (.lst []))) (hl:∀ i ys σ H,i<=xs.length->Pv i ys σ H->SqL K H a xs/\H D=some (.lst ys))
  (hs:∀ i ys x σ H,xs[i]? = some x->Pv i ys σ H->g x σ H fun σ3 H3=>tt σ3 H3 fun b H4=>if b=true then te σ3 H4 fun y H5=>H5 D=some (.lst ys)/\ys.length < sizeLine/\Pv (i+1) (ys++[y]) σ3 (upd H5 D (.lst (ys++[y]))) else Pv (i+1) ys σ3 H4)
  (hd:∀ ys σ H,Pv xs.length ys σ H->Q H):gA D σ0 (Itl K a) g tt te H1 Q:=by
 refine⟨fun i m ys σ H=>m=xs.length - i/\i<=xs.length/\Pv i ys σ H,⟨xs.length,by simp,QB _,h0⟩,?_⟩
 rintro i m ys σ H ⟨rfl,hi,p⟩
 obtain⟨q,qD⟩:=hl i ys σ H hi p
 refine⟨qD,?_⟩
 by_cases hlt:i < xs.length
 ·refine .inr ⟨⟨xs,xs[i],q,by simp [hlt]⟩,Pv (i+1),fun zs σ' H' p'=>⟨xs.length - (i+1),by lia,rfl,hlt,p'⟩,fun x H' y=>?_⟩
  obtain⟨e,y⟩:=y
  subst e
  exact hs i ys x σ _ (y xs q) p
 ·have e:i=xs.length:=by lia
  subst e
  exact .inl ⟨⟨xs,q,PX _⟩,hd ys σ H p⟩
theorem dw {lo:Int} {n:Nat} (Pv:Nat->List V->St->Hp->Prop) (h0:Pv 0 [] σ0 (upd H1 D (.lst []))) (hl:∀ i ys σ H,i<=n->Pv i ys σ H->H D=some (.lst ys))
  (hs:∀ i ys σ H,i < n->Pv i ys σ H->g (.int (lo+i)) σ H fun σ3 H3=>tt σ3 H3 fun b H4=>if b=true then te σ3 H4 fun y H5=>H5 D=some (.lst ys)/\ys.length < sizeLine/\Pv (i+1) (ys++[y]) σ3 (upd H5 D (.lst (ys++[y]))) else Pv (i+1) ys σ3 H4)
  (hd:∀ ys σ H,Pv n ys σ H->Q H):gA D σ0 (Itr lo n) g tt te H1 Q:=by
 refine⟨fun i m ys σ H=>m=n - i/\i<=n/\Pv i ys σ H,⟨n,by simp,QB _,h0⟩,?_⟩
 rintro i m ys σ H ⟨rfl,hi,p⟩
 refine⟨hl i ys σ H hi p,?_⟩
 by_cases hlt:i < n
 ·refine .inr ⟨hlt,Pv (i+1),fun zs σ' H' p'=>⟨n - (i+1),by lia,rfl,hlt,p'⟩,fun x H' y=>?_⟩
  obtain⟨e,y⟩:=y
  subst e y
  exact hs i ys σ _ hlt p
 ·have e:i=n:=by lia
  subst e
  exact .inl ⟨PX _,hd ys σ H p⟩
end
structure Bt (mg:Rx->Option Value):Prop where
 len_:mg "len" = none
 range_:mg "range" = none
 all_:mg "all" = none
 isinstance_:mg "isinstance" = none
 int_:mg "int" = none
 bool_:mg "bool" = none
 str_:mg "str" = none
 list_:mg "list" = none
 tuple_:mg "tuple" = none
 abs_:mg "abs" = none
 max_:mg "max" = none
 min_:mg "min" = none
 sum_:mg "sum" = none
 sorted_:mg "sorted" = none
 zip_:mg "zip" = none
 reversed_:mg "reversed" = none
 divmod_:mg "divmod" = none
 set_:mg "set" = none
 any_:mg "any" = none
 enumerate_:mg "enumerate" = none
theorem ie:Q5 "len" = some (.builtin "len"):=PySem.boot_len
theorem GJ:Q5 "all" = some (.builtin "all"):=by decide+kernel
theorem bF:Q5 "isinstance" = some (.builtin "isinstance"):=by decide+kernel
theorem ud:Q5 "abs" = some (.builtin "abs"):=by decide+kernel
theorem xn:Q5 "max" = some (.builtin "max"):=by decide+kernel
theorem Gz:Q5 "min" = some (.builtin "min"):=by decide+kernel
theorem MK:Q5 "sum" = some (.builtin "sum"):=by decide+kernel
theorem BL:Q5 "int" = some (.type "int"):=by decide+kernel
theorem CW:Q5 "bool" = some (.type "bool"):=by decide+kernel
theorem Hj:Q5 "str" = some (.type "str"):=by decide+kernel
theorem vg:Q5 "list" = some (.type "list"):=by decide+kernel
theorem bQ:Q5 "tuple" = some (.type "tuple"):=by decide+kernel
theorem oO (K:Qu) (T:String):U8 K (.type T) (.type T)=some true:=by
 unfold PySem.W.kitOne
 rw[if_pos (beq_self_eq_true _)]
theorem mW (K:Qu):U8 K (.type "int") (.type "bool")=some false:=by kernel_rfl
theorem nG (K:Qu):U8 K (.type "bool") (.type "int")=some true:=by kernel_rfl
theorem yP (K:Qu):U8 K (.type "int") (.type "str")=some false:=by kernel_rfl
theorem vf (K:Qu):U8 K (.type "bool") (.type "str")=some false:=by kernel_rfl
theorem sH (K:Qu):U8 K (.type "tuple") (.type "str")=some false:=by kernel_rfl
theorem uA (K:Qu):U8 K (.type "list") (.type "str")=some false:=by kernel_rfl
theorem rH (K:Qu):U8 K (.type "tuple") (.type "int")=some false:=by kernel_rfl
theorem uT (K:Qu):U8 K (.type "list") (.type "int")=some false:=by kernel_rfl
theorem jL (K:Qu):U8 K (.type "tuple") (.type "list")=some false:=by kernel_rfl
theorem jG (K:Qu):U8 K (.type "list") (.type "tuple")=some false:=by kernel_rfl
end L2
namespace L2
open PySem PySem.Spec PyProof.Rows
inductive Dm where
 | non | bl (b:Bool) | int (i:Int) | str (x:Rx) | tup (ds:List Dm) | lst (ds:List Dm)
mutual
def Dm.dep:Dm->Nat
 | .tup ds=>n8 ds+1
 | .lst ds=>n8 ds+1
 | _=>0
def n8:List Dm->Nat
 | []=>0
 | d::r=>max d.dep (n8 r)
end
mutual
inductive Rep (H:Hp):V->Dm->Prop where
 | non:Rep H .non .non
 | bl (b:Bool):Rep H (.bl b) (.bl b)
 | int (i:Int):Rep H (.int i) (.int i)
 | str (x:Rx):Rep H (.str x) (.str x)
 | tup {a:Addr} {xs:List V} {ds:List Dm}:H a=some (.tup xs)->xs.length<=100000->pI H xs ds->Rep H (.ref a) (.tup ds)
 | lst {a:Addr} {xs:List V} {ds:List Dm}:H a=some (.lst xs)->xs.length<=100000->pI H xs ds->Rep H (.ref a) (.lst ds)
inductive pI (H:Hp):List V->List Dm->Prop where
 | nil:pI H [] []
 | cons {v:V} {d:Dm} {vs:List V} {ds:List Dm}:Rep H v d->pI H vs ds->pI H (v::vs) (d::ds)
end
mutual
theorem Rep.mono {H H':Hp} (e:aM H H'):∀ {v:V} {d:Dm},Rep H v d->Rep H' v d
 | _,_,.non=>.non
 | _,_,.bl b=>.bl b
 | _,_,.int i=>.int i
 | _,_,.str x=>.str x
 | _,_,.tup h l r=>.tup (e _ _ h) l (pI.mono e r)
 | _,_,.lst h l r=>.lst (e _ _ h) l (pI.mono e r)
theorem pI.mono {H H':Hp} (e:aM H H'):∀ {vs:List V} {ds:List Dm},pI H vs ds->pI H' vs ds
 | _,_,.nil=>.nil
 | _,_,.cons h r=>.cons (Rep.mono e h) (pI.mono e r)
end
theorem pI.length {H:Hp}:∀ {vs:List V} {ds:List Dm},pI H vs ds->vs.length=ds.length
 | _,_,.nil=>rfl
 | _,_,.cons _ r=>by rw[Qo,Qo,pI.length r]
theorem pI.get {H:Hp}:∀ {vs:List V} {ds:List Dm} {i:Nat},pI H vs ds->i < vs.length->∃ v d,vs[i]? = some v/\ds[i]? = some d/\Rep H v d
 | _,_,_,.nil,h=>absurd h (VG _)
 | _,_,0,.cons h _,_=>⟨_,_,rfl,rfl,h⟩
 | _,_,i+1,.cons _ r,h=>by
  obtain⟨v,d,e1,e2,e3⟩:=pI.get (i:=i) r (Wz h)
  exact⟨v,d,by simpa using e1,by simpa using e2,e3⟩
theorem qe:∀ {ds:List Dm} {i:Nat} {d:Dm},ds[i]? = some d->d.dep<=n8 ds
 | [],_,_,h=>by simp at h
 | d::r,0,_,h=>by
  cases (show some d=some _ from h)
  rw[n8]
  exact Nat.le_max_left _ _
 | d::r,i+1,_,h=>by
  rw[n8]
  exact Q6 (qe (i:=i) (ds:=r) (by simpa using h)) (Nat.le_max_right _ _)
theorem nR {H:Hp}:∀ ns:List Int,pI H (ns.map V.int) (ns.map Dm.int)
 | []=>.nil
 | n::r=>.cons (.int n) (nR r)
section
variable {X:Cx}
inductive Lq (K:Qu) (x:V) (y:V) (H:Hp) (Q:VK):Prop where
 | mk (a b:Addr) (xs:List V) (z0:x = .ref a) (z1:y = .ref b) (z2:SqL K H a xs) (z3:SqL K H b []) (z4:Q (.bl xs.isEmpty) H):Lq K x y H Q
def Oq (K:Qu):R2:=fun x y H Q=>Lq K x y H Q
theorem Ma (hu:X.A.units < cLine):OpR X (Td .Eq) (Oq X.K):=by
 intro pins s σ H x y v u Q I rx ry h
 obtain⟨a,b,xs,rfl,rfl,ha,hb,q⟩:=h
 cases rx
 cases ry
 obtain⟨its,r1,p1,_⟩:=I.list ha
 obtain⟨its2,r2,p2,_⟩:=I.list hb
 cases r2
 cases r1 with
 | nil=>exact SeqAt.eq_listAt (e:=fun _=>true) p1.isList p2.isList rfl hu (fun j h1 _=>absurd h1 (by simp)) ⟨.bl true,H,I,rfl,q⟩
 | cons r t=>exact SeqAt.eq_list_lengthsAt p1.isList p2.isList (by simp) hu ⟨.bl false,H,I,rfl,q⟩
end
end L2
namespace L2
open PySem PySem.Spec PyProof.Rows
section
variable {prog:Qx} {w:QG} {A:QK} {E:Value->PB->Prop} {s:PB}
theorem nM {it t:Addr} {i:Nat} {its:Array Value} {x:Value} {Q:Value->PB->Prop} (j:s.heap.IsTupleIter it t i) (ht:s.heap.IsTuple t its) (hx:its[i]? = some x)
  (k:∀ h',h'.IsTupleIter it t (i+1)->Sq it s.heap h'->Q x { s with heap:=h' }):Qd (Qt prog w) A (QV (.ref it)) Q E s:=by
 obtain⟨o,e1,c1,d1⟩:=id j; obtain⟨o2,e2,_,n2,d2⟩:=ht; unfold QV
 refine Px (Q3 (name:=Sg "__next__") j.typeIs UL (Ra UL j.typeIs Yh ?_ (Yc _)))
 show Qd _ _ (W6 (.ref it) 0 >>= _) _ _ s; refine Px (QX e1 d1 (x:=.ref t) rfl ?_)
 show Qd _ _ (if (QS t == QZ)=true then _ else _) _ _ s; rw[if_neg (show ¬ ((QS t == QZ)=true) from Qc)]
 show Qd _ _ (W6 (.ref it) 1 >>= _) _ _ s; refine Px (QX e1 d1 (x:=.int i 0) rfl ?_)
 show Qd _ _ (Wo (.ref t) >>= _) _ _ s; refine Px (Rf e2 d2 ?_); simp only[QC,hx]
 refine Px (Sd e1 d1 (by simp) (PK ⟨x,rfl,PK (k _ ?_ (Ro ..))⟩))
 exact⟨_,Q8 _ e1 (Obj.isFreed_of_fields (Obj.data_mapFields d1 _)),(Obj.cls_mapFields ..).trans c1,by rw[Obj.data_mapFields d1]; simp [RJ]⟩
theorem Hh {it t:Addr} {i:Nat} {its:Array Value} {Q:Value->PB->Prop} (hh:A.handled=none) (j:s.heap.IsTupleIter it t i) (ht:s.heap.IsTuple t its) (hx:its[i]? = none)
  (k:∀ h' e,Heap.ExtBut it s.heap h'->(∃ o,h'.get? e=some o/\o.cls = .type "StopIteration")->E (.ref e) { s with heap:=h' }):Qd (Qt prog w) A (QV (.ref it)) Q E s:=by
 obtain⟨o,e1,c1,d1⟩:=id j; obtain⟨o2,e2,_,n2,d2⟩:=ht; unfold QV
 refine Px (Q3 (name:=Sg "__next__") j.typeIs UL (Ra UL j.typeIs Yh ?_ (Yc _)))
 show Qd _ _ (W6 (.ref it) 0 >>= _) _ _ s; refine Px (QX e1 d1 (x:=.ref t) rfl ?_)
 show Qd _ _ (if (QS t == QZ)=true then _ else _) _ _ s; rw[if_neg (show ¬ ((QS t == QZ)=true) from Qc)]
 show Qd _ _ (W6 (.ref it) 1 >>= _) _ _ s; refine Px (QX e1 d1 (x:=.int i 0) rfl ?_)
 show Qd _ _ (Wo (.ref t) >>= _) _ _ s; refine Px (Rf e2 d2 ?_); simp only[QC,hx]
 refine Px (Uv (Px (Sd e1 d1 (by simp) ?_))); show Qd _ _ (XJ (.type "StopIteration") [] >>= _) _ _ _
 refine Px ?_; simp only[XJ,newTuple]; refine Px (QL ?_ (by size_fits))
 refine Px (m:=TX _ _) (S5 (a:=QZ) (by first | rfl | (simp only[TX]; rfl)) ?_); refine QL ?_ (by size_fits)
 simp only[raiseNew]; refine Px (W5 ?_); first | rw[show A.in1.handled=none from hh] | rw[hh]
 refine Px (PK (X3 ?_)); exact k _ _ (((Ro ..).extBut.push _).push _) ⟨_,PN _ rfl,rfl⟩
structure Zap (z p q i1 i2 l1 l2:Addr):Prop where
 pz:p≠z
 qz:q≠z
 az:i1≠z
 bz:i2≠z
 pq:p≠q
 pa:p≠i1
 pb:p≠i2
 qa:q≠i1
 qb:q≠i2
 ab:i1≠i2
 xz:l1≠z
 xq:l1≠q
 xa:l1≠i1
 xb:l1≠i2
 yz:l2≠z
 yq:l2≠q
 ya:l2≠i1
 yb:l2≠i2
theorem ik {h h':Rb} {a t:Addr} {its:Array Value} (ht:h.IsTuple t its) (sb:Sq a h h') (ne:t≠a):h'.IsTuple t its:=by
 obtain⟨o,e,r⟩:=ht
 exact⟨o,(sb.2 t ne).trans e,r⟩
theorem cX {h h':Rb} {a it t:Addr} {i:Nat} (ht:h.IsTupleIter it t i) (sb:Sq a h h') (ne:it≠a):h'.IsTupleIter it t i:=by
 obtain⟨o,e,r⟩:=ht
 exact⟨o,(sb.2 it ne).trans e,r⟩
abbrev zA (h:Rb) (t:Addr):Rb:=h.push { cls:=.type "tuple_iterator",data:=.fields #[.ref t,.int 0 0] }
end
theorem Inv.iB {X:Cx} {pins:List (Addr × Tv)} {σ:St} {H:Hp} {s:PB} {h':Rb} {t':Nat} {ch:List Addr} (I:Inv X pins σ H s) (k:∀ b o,b ∉ ch->s.heap.get? b=some o->h'.get? b=some o) (hf:∀ b∈ch,uO X pins H b) :
  Inv X pins σ H { s with heap:=h',toks:=t' }:=by
 have nit:∀ b u,H b=some u->b ∉ ch:=fun b u e z=>by
  have:=(hf b z).1
  rw[this] at e; cases e
 refine I.step (g':=s.gens) (d':=s.drawn) (ch:=ch) (fun b hb=>let ⟨_,f1,_,f3,f4,f5⟩:=hf b hb; ⟨f3,f1,f4,f5⟩) (fun b o _ _ hc e _=>k b o hc e) (fun b o _ _ hc e _=>⟨o.slots,k b o hc e⟩) (fun _ _ _ _ n=>n)
  (fun b o hc e=>⟨o,k b o hc e⟩) (fun _ _ e=>e) (fun _ _ _ e=>e) (fun b ps e=>⟨#[],by rw[e]; simp⟩) (fun m hm=>?_) (fun b u e=>?_) I.bare
 ·obtain⟨o,es,ep,ho,r⟩:=hm
  exact⟨o,es,ep,k _ o (fun z=>(hf _ z).2.1 rfl) ho,r⟩
 ·refine (I.hok b u e).stay (fun c v hc q=>k c v ?_ q) (fun _ q=>q) fun _ _ q=>q
  rcases hc with z | z
  ·rw[z]; exact nit b u e
  ·exact nit c _ z
theorem HY {n c d:Nat} (hc:c < n) (hd:d < n):Zap (n+4) (n+2) (n+3) n (n+1) c d:=by
 constructor <;> (refine (fun (h:¬ @Eq Nat _ _)=>h) ?_) <;> lia
end L2
namespace L2
open PySem PySem.Spec PyProof.Rows
theorem mD:∀ ns ms:List Int,((P0 (min ns.length ms.length)).all (fun j=>ns.getD j 0 == ms.getD j 0) && ns.length == ms.length)=decide (ns=ms)
 | [],[]=>rfl
 | [],m::ms=>by rw[decide_eq_false (by simp)]; rfl
 | n::ns,[]=>by rw[decide_eq_false (by simp)]; rfl
 | n::ns,m::ms=>by
  have ih:=mD ns ms
  have e:min (n::ns).length (m::ms).length=min ns.length ms.length+1:=by rw[Qo,Qo]; lia
  have el:((n::ns).length == (m::ms).length)=(ns.length == ms.length):=by simp
  have e3:decide (n::ns=m::ms)=(n == m && decide (ns=ms)):=by
   by_cases h1:n=m
   ·subst h1
    by_cases h2:ns=ms
    ·subst h2; simp
    ·simp [h2]
   ·simp [h1]
  rw[e,List.range_succ_eq_map,Vv,List.all_map,el,e3,← ih,Bool.and_assoc]
  rfl
theorem dU {X:Cx} {pos:Vo} {K:Qu} {es:List Expr} {k:Nat} {t:TGs} (n:Nat) (hK:X.K=K) (hc:X.calm=true) (h:PGs X es t)
  (hn:(Vq es X.env).length=n:=by rfl) (hst:(Vq es X.env).findIdx? (·.1)=none:=by rfl):PG X (.Tuple es k pos) (Ou K n t):=by
 subst hK
 exact MT hc h hn hst
section
variable {X:Cx}
inductive G3 (K:Qu) (x:V) (y:V) (H:Hp) (Q:VK):Prop where
 | mk (a b:Addr) (ns ms:List Int) (z0:x = .ref a) (z1:y = .ref b) (z2:SqT K H a (ns.map V.int)) (z3:SqT K H b (ms.map V.int)) (z4:Q (.bl (decide (ns=ms))) H):G3 K x y H Q
def Ew (K:Qu):R2:=fun x y H Q=>G3 K x y H Q
theorem ints_get {ns:List Int} {its:List Value} (i:Rh its ns) {j:Nat} (h:j < its.length):∃ t,its[j] = .int (ns.getD j 0) t:=by
 induction i generalizing j with
 | nil=>exact absurd h (VG _)
 | cons n t r ih =>
  cases j with
  | zero=>exact⟨t,rfl⟩
  | succ j =>
   obtain⟨u,e⟩:=ih (j:=j) (Wz h)
   exact⟨u,by simpa using e⟩
theorem uU (hu:X.A.units < cLine):OpR X (Td .Eq) (Ew X.K):=by
 intro pins s σ H x y v u Q I rx ry h
 obtain⟨a,b,ns,ms,rfl,rfl,ha,hb,q⟩:=h
 cases rx
 cases ry
 obtain⟨its,r1,p1,_⟩:=I.tuple ha
 obtain⟨its2,r2,p2,_⟩:=I.tuple hb
 have i1:Rh its ns:=intsAre_of r1
 have i2:Rh its2 ms:=intsAre_of r2
 have l1:=i1.length
 have l2:=i2.length
 refine SeqAt.eq_tupleAt (e:=fun j=>ns.getD j 0 == ms.getD j 0) (show s.heap.IsTuple a its.toArray from p1) (show s.heap.IsTuple b its2.toArray from p2) hu (fun j h1 h2=>?_) ?_
 ·obtain⟨t,e1⟩:=ints_get i1 (j:=j) (by simpa using h1)
  obtain⟨t',e2⟩:=ints_get i2 (j:=j) (by simpa using h2)
  rw[Tr,Tr,e1,e2]
  exact Xc _ _ _ _
 ·refine⟨.bl _,H,I,?_,q⟩
  have e:=mD ns ms
  have s1:its.toArray.size=ns.length:=by rw[Qe]; exact l1
  have s2:its2.toArray.size=ms.length:=by rw[Qe]; exact l2
  rw[s1,s2,e]
  rfl
inductive zm (K:Qu) (x:V) (y:V) (H:Hp) (Q:VK):Prop where
 | mk (a b:Addr) (xs ys:List V) (z0:x = .ref a) (z1:y = .ref b) (z2:SqT K H a xs) (z3:SqT K H b ys) (z4:xs.length+ys.length<=sizeLine) (z5:(xs=[]->Q (.ref b) H)) (z6:(xs≠[]->ys=[]->Q (.ref a) H)) (z7:(xs≠[]->ys≠[]->∀ p,H p=none->Q (.ref p) (upd H p (.tup (xs++ys))))):zm K x y H Q
def GZ (K:Qu):R2:=fun x y H Q=>zm K x y H Q
theorem DR:OpR X (Ux .Add) (GZ X.K):=by
 intro pins s σ H x y v u Q I rx ry h
 obtain⟨a,b,xs,ys,rfl,rfl,ha,hb,hz,q0,q1,q2⟩:=h
 by_cases hx:xs=[]
 ·subst hx
  cases rx
  cases ry
  obtain⟨its,r1,p1,_⟩:=I.tuple ha
  obtain⟨its2,r2,p2,_⟩:=I.tuple hb
  cases r1
  obtain⟨⟨c1,d1,dt1,sl1⟩,ho,hc,n,hd⟩:=id p1
  obtain⟨⟨c2,d2,dt2,sl2⟩,ho2,hc2,n2,hd2⟩:=id p2
  simp only at hc hd hc2 hd2
  subst hc hd hc2 hd2
  exact concat_meets ⟨_,ho,rfl⟩ ⟨_,ho2,rfl⟩ XH seq_tuple_add Wy Wq (Wj _ _) (tuple_addW0 a b _ _ n n2 d1 d2 sl1 sl2 rfl) ⟨ho,ho2,⟨.ref b,H,I,rfl,q0 rfl⟩⟩
 ·exact Jt pins s σ H _ _ v u Q I rx ry ⟨a,b,xs,ys,rfl,rfl,ha,hb,hx,hz,q1 hx,q2 hx⟩
end
end L2
namespace L2
open PySem PySem.Spec PyProof.Rows
theorem yp (l:Addr) (items:Array Value) (n:Nat) (dd:Option Addr) (sl:Array (Option Value)) (x:Int) (u:Tok) (h1:1 < x) (h2:x < 2 ^ 31) (he:items.isEmpty=false) (hz:items.size * x.toNat<=sizeLine) :
  Meets (Ss.«tuple.__mul__» ⟨[.ref l,.int x u],[]⟩) (fun _ R s=>s.heap.get? l=some { cls:=.type "tuple",dict:=dd,data:=.seq items n,slots:=sl }/\R (.ok (.ret (QS s.heap.objs.size))) { s with heap:=s.heap.push { cls:=Ug "tuple",data:=Data.seq (Vr (fun x1 x2=>x1++x2) #[] (Qh x.toNat items)) },toks:=s.toks }) :=
 .of_wp fun prog w A R s h=>by
  obtain⟨hp,g,d,tk,os⟩:=s
  obtain⟨hl,h⟩:=h
  have f1:=AutoSeq1.idx_int
  have c1:(decide (x < -(2 ^ 63)) || decide (x ≥ 2 ^ 63))=false:=by
   rw[decide_eq_false (by lia),decide_eq_false (by lia)]
   rfl
  have c2:(items.isEmpty || x == 1)=false:=by
   rw[he,beq_false_of_ne (by lia)]
   rfl
  have c3:(decide (x<=0) || items.isEmpty)=false:=by
   rw[he,decide_eq_false (by lia)]
   rfl
  have ez:((items.size * x.toNat:Nat):Int)=(items.size:Int) * x:=by
   rw[Int.natCast_mul,Int.toNat_of_nonneg (by lia)]
  have c4:¬ (items.size:Int) * x > (2 ^ 63 - 1) / 8:=by
   have:(sizeLine:Nat)<=(2 ^ 63 - 1) / 8:=by decide
   lia
  have c5:Builtin.Tuple.tupleTooMany ((items.size:Int) * x)=false:=by
   unfold Builtin.Tuple.tupleTooMany
   rw[decide_eq_false]
   lia
  have c6:¬ (Vr (fun x1 x2=>x1++x2) #[] (Qh x.toNat items)).size > sizeLine:=by
   have e:=foldl_rep items.toList x.toNat []
   rw[WQ,Array.toArray_toList] at e
   rw[e,Qe,len_rep,Qw,Nat.mul_comm]
   lia
  wp_walk using QR hl
  refine Tj (decide_eq_false (by rw[c1]; exact Qc)) ?_
  wp_walk using QR hl
  refine Tj (decide_eq_false (by rw[c2]; exact Qc)) ?_
  wp_walk using QR hl
  refine Tj (decide_eq_false (by rw[c3]; exact Qc)) ?_
  wp_walk using QR hl
  refine Tj (decide_eq_false c4) ?_
  wp_walk using QR hl
  exact⟨_,rfl,h⟩
theorem xX (l:Addr) (items:Array Value) (n:Nat) (dd:Option Addr) (sl:Array (Option Value)) (u:Tok) :
  Meets (Ss.«tuple.__mul__» ⟨[.ref l,.int 1 u],[]⟩) (fun _ R s=>s.heap.get? l=some { cls:=.type "tuple",dict:=dd,data:=.seq items n,slots:=sl }/\R (.ok (.ret (QS l))) s) :=
 .of_wp fun prog w A R s h=>by
  obtain⟨hp,g,d,tk,os⟩:=s
  obtain⟨hl,h⟩:=h
  have f1:=AutoSeq1.idx_int
  have c2:(items.isEmpty || (1:Int) == 1)=true:=by rw[show ((1:Int) == 1)=true from rfl,Bool.or_true]
  wp_walk using QR hl
  exact⟨_,rfl,h⟩
theorem ir:fillsNumberSlot (.type "tuple") "mul" = pure false :=
 PySem.fillsNumberSlot_seq (id:="tuple.__mul__") (r:=some (.builtin "tuple.__rmul__")) F.slot_tuple_mul.lookup (by decide+kernel) F.slot_tuple_rmul.lookup (by decide+kernel)
theorem lH:seqRepeat? (.type "tuple")=pure (some (.builtin "tuple.__mul__")):=by
 unfold seqRepeat?
 rw[PySem.seqSlot_of (T:="tuple") (name:="__mul__") (id:="tuple.__mul__") F.slot_tuple_mul.lookup (by decide+kernel),PySem.seqSlot_of (T:="tuple") (name:="__rmul__") (id:="tuple.__rmul__") F.slot_tuple_rmul.lookup (by decide+kernel)]
 rfl
theorem iV (a:Int) (t:Tok) (l:Addr) (items:Array Value) (n:Nat) (dd:Option Addr) (sl:Array (Option Value)) :
  Meets (Ss.«int.__rmul__» ⟨[.int a t,.ref l],[]⟩) (fun _ R s=>s.heap.get? l=some { cls:=.type "tuple",dict:=dd,data:=.seq items n,slots:=sl }/\R (.ok (.ret Value.notImplemented)) s) :=
 .of_wp fun prog w A R s h=>by
  obtain⟨hp,g,d,tk,os⟩:=s
  obtain⟨hl,h⟩:=h
  wp_walk
  exact⟨_,rfl,h⟩
section
variable {X:Cx}
inductive GR (K:Qu) (x:V) (y:V) (H:Hp) (Q:VK):Prop where
 | mk (l:Addr) (k:Int) (xs:List V) (z0:x = .ref l) (z1:y = .int k) (z2:SqT K H l xs) (z3:xs≠[]) (z4:1<=k) (z5:k < 2 ^ 31) (z6:xs.length * k.toNat<=sizeLine) (z7:(k=1->Q (.ref l) H)) (z8:(k≠1->∀ p,H p=none->Q (.ref p) (upd H p (.tup (Qh k.toNat xs).flatten)))):GR K x y H Q
def Jv (K:Qu):R2:=fun x y H Q=>GR K x y H Q
theorem JZ:OpR X (Ux .Mult) (Jv X.K):=by
 intro pins s σ H x y v u Q I rx ry h
 obtain⟨l,k,xs,rfl,rfl,hl,hx,h1,h2,hz,q1,q2⟩:=h
 cases rx
 obtain⟨t,rfl⟩:=ry
 obtain⟨its,r,p,_⟩:=I.tuple hl
 have hlen:=r.length
 obtain⟨⟨c1,d1,dt1,sl1⟩,ho,hc,n,hd⟩:=id p
 simp only at hc hd
 subst hc hd
 by_cases hk:k=1
 ·subst hk
  exact Wc (T:="tuple") (U:="int") (by decide) ⟨_,ho,rfl⟩ (fun s'=>V4 s' 1 t) ir Yb Vf lH F.slot_int_index.lookup
   (Ue Vf (V4 s 1 t) XX (Xw _ _) (iV 1 t l its.toArray n d1 sl1)
    ⟨ho,rfl,⟨_,ho,rfl⟩,Ue F.slot_tuple_mul ⟨_,ho,rfl⟩ F.entry_tuple_mul (F.args_tuple_mul_2 _ _) (xX l its.toArray n d1 sl1 t) ⟨ho,⟨.ref l,H,I,rfl,q1 rfl⟩⟩⟩)
 ·have he:its.toArray.isEmpty=false:=by
   cases its with
   | nil=>exact absurd (r.pK.mp rfl) hx
   | cons a r'=>rfl
  have hnew:Vr (fun x1 x2=>x1++x2) #[] (Qh k.toNat its.toArray)=(Qh k.toNat its).flatten.toArray:=by
   have:=foldl_rep its k.toNat []
   rw[WQ] at this
   exact this
  have hz':its.toArray.size * k.toNat<=sizeLine:=by rw[Qe,← hlen]; exact hz
  refine Wc (T:="tuple") (U:="int") (by decide) ⟨_,ho,rfl⟩ (fun s'=>V4 s' k t) ir Yb Vf lH F.slot_int_index.lookup
   (Ue Vf (V4 s k t) XX (Xw _ _) (iV k t l its.toArray n d1 sl1)
    ⟨ho,rfl,⟨_,ho,rfl⟩,Ue F.slot_tuple_mul ⟨_,ho,rfl⟩ F.entry_tuple_mul (F.args_tuple_mul_2 _ _) (yp l its.toArray n d1 sl1 k t (by lia) h2 he hz') ⟨ho,?_⟩⟩)
  rw[hnew]
  refine⟨.ref s.heap.objs.size,_,I.laid (t':=s.toks) (o:=.tup (Qh k.toNat xs).flatten) (fun b ob q=>Pz _ q) (PX _) ?_,rfl,q2 hk _ (I.hok.fresh (PX _))⟩
  exact⟨by rw[len_rep,Nat.mul_comm]; exact hz,_,r.rep k.toNat,IsTup.new _ _⟩
inductive Gj (K:Qu) (xs:List V) (H:Hp) (Q:VK):Prop where
 | mk (p:Addr) (ns:List Int) (z0:xs=[.ref p]) (z1:SqL K H p (ns.map V.int)) (z2:Q (.int ns.sum) H):Gj K xs H Q
def K4 (K:Qu):List V->Hp->VK->Prop:=fun xs H Q=>Gj K xs H Q
theorem Ar (hc:X.calm=true):iy X (.builtin "sum") (K4 X.K):=by
 intro pins s σ H xs us Q I r h
 obtain⟨p,ns,rfl,hq,q⟩:=h
 obtain⟨u,rfl,ru⟩:=vals1 r
 cases ru
 obtain⟨its,rv,pl,hz⟩:=I.list hq
 have hi:Rh its ns:=intsAre_of rv
 obtain⟨zs,hx⟩:=hi.allInts.items
 have hl':s.heap.IsList p (intItems zs):=hx▸pl.isList
 refine sum_intListG (I.ok.hd hc) hl' fun h' tk t' hk=>?_
 have e1:ns=zs.toList.map (·.1):=by
  rw[← nums_intItems,← hx]
  exact (show numsOf its.toArray.toList=ns from hi.numsOf).symm
 have e2:preSum (numAt zs) zs.size=ns.sum:=by
  rw[preSum_eq,List.take_of_length_le (by simp),e1]
 rw[e2]
 exact⟨.int _,H,I.kept (t':=tk) hk,⟨_,rfl⟩,q⟩
end
end L2
namespace L2
open PySem PySem.Spec PyProof.Rows
def Nb:List V->Hp->VK->Prop:=fun xs H Q=>(∃ i,xs=[.int i]/\Q (.int i) H)∨∃ k,xs=[.bl k]/\Q (.int (if k then 1 else 0)) H
end L2
namespace L2
open PySem
def Ris (xs:Array Nat):Prop:=xs.toList.Pairwise (· < ·)
theorem wY {xs:Array Nat} (h:Ris xs) {i j x y:Nat} (hij:i < j) (hi:xs[i]? = some x) (hj:xs[j]? = some y):x < y:=by
 rw[← QW] at hi hj
 obtain⟨li,ei⟩:=List.getElem?_eq_some_iff.mp hi
 obtain⟨lj,ej⟩:=List.getElem?_eq_some_iff.mp hj
 have:=List.pairwise_iff_getElem.mp h i j li lj hij
 rw[ei,ej] at this
 exact this
theorem pO {xs:Array Nat} (h:Ris xs) (j:Nat):∀ (fuel lo hi:Nat),hi - lo<=fuel->lo<=hi->hi<=xs.size->(∀ i x,i < lo->xs[i]? = some x->x < j)->(∀ i x,hi<=i->xs[i]? = some x->j<=x) →
  Vh xs j fuel lo hi<=xs.size/\(∀ i x,i < Vh xs j fuel lo hi->xs[i]? = some x->x < j)/\(∀ i x,Vh xs j fuel lo hi<=i->xs[i]? = some x->j<=x)
 | 0,lo,hi,hf,hl,hs,h1,h2=>by
  rw[Vh]
  have e:lo=hi:=by lia
  subst e
  exact⟨hs,h1,h2⟩
 | fuel+1,lo,hi,hf,hl,hs,h1,h2=>by
  rw[Vh]
  by_cases hlt:lo < hi
  ·rw[if_pos hlt]
   dsimp only
   have hm1:lo<=(lo+hi) / 2:=by lia
   have hm2:(lo+hi) / 2 < hi:=by lia
   have hms:(lo+hi) / 2 < xs.size:=by lia
   generalize (lo+hi) / 2=m at *
   have eg:xs[m]? = some xs[m]:=Qq hms
   have ed:xs.getD m j=xs[m]:=by rw[RT,eg]; rfl
   rw[ed]
   by_cases hc:xs[m] < j
   ·rw[if_pos hc]
    refine pO h j fuel (m+1) hi (by lia) (by lia) hs (fun i x hi' e=>?_) h2
    by_cases hm:i=m
    ·subst hm
     rw[eg] at e
     cases e
     exact hc
    ·exact Nat.lt_trans (wY h (show i < m by lia) e eg) hc
   ·rw[if_neg hc]
    refine pO h j fuel lo m (by lia) hm1 (by lia) h1 (fun i x hi' e=>?_)
    by_cases hm:i=m
    ·subst hm
     rw[eg] at e
     cases e
     lia
    ·have:=wY h (show m < i by lia) eg e
     lia
  ·rw[if_neg hlt]
   have e:lo=hi:=by lia
   subst e
   exact⟨hs,h1,h2⟩
theorem qJ {xs:Array Nat} (h:Ris xs) (j:Nat):RK xs j<=xs.size/\(∀ i x,i < RK xs j->xs[i]? = some x->x < j)/\(∀ i x,RK xs j<=i->xs[i]? = some x->j<=x):=by
 unfold RK
 refine pO h j xs.size 0 xs.size (by lia) (QB _) (PX _) (fun i x hi=>absurd hi (VG _)) fun i x hi e=>?_
 rw[Uj hi] at e
 cases e
theorem below_at {xs:Array Nat} (h:Ris xs) {i x:Nat} (e:xs[i]? = some x):RK xs (x+1)=i+1:=by
 obtain⟨h1,h2,h3⟩:=qJ h (x+1)
 have hi:i < xs.size:=(Array.getElem?_eq_some_iff.mp e).1
 generalize RK xs (x+1)=p at *
 rcases Nat.lt_trichotomy p (i+1) with hp | hp | hp
 ·have:=h3 i x (by lia) e
  lia
 ·exact hp
 ·have hs:i+1 < xs.size:=by lia
  have:=wY h (Te i) e (Qq hs)
  have:=h2 (i+1) _ hp (Qq hs)
  lia
theorem yV {xs:Array Nat} (h:Ris xs):RK xs 0=0:=by
 obtain⟨h1,h2,h3⟩:=qJ h 0
 generalize RK xs 0=p at *
 rcases Nat.eq_zero_or_pos p with hp | hp
 ·exact hp
 ·have hs:0 < xs.size:=by lia
  have:=h2 0 _ hp (Qq hs)
  lia
theorem Jy {xs:Array Nat} (h:Ris xs) {j:Nat} (hj:xs[RK xs j]?≠some j):Ris (SetTable.insertAt xs (RK xs j) j):=by
 obtain⟨h1,h2,h3⟩:=qJ h j
 unfold Ris
 rw[SetTable.toList_insertAt]
 generalize hp:RK xs j=p at *
 have hh:xs.toList.Pairwise (· < ·):=h
 have hlt:∀ x∈xs.toList.take p,x < j:=fun x hx=>by
  obtain⟨i,hi,e⟩:=RX hx
  rw[Ql] at hi
  rw[List.getElem_take] at e
  exact h2 i x (by lia) (by rw[← QW,PJ (by lia),e])
 have hgt:∀ x∈xs.toList.drop p,j < x:=fun x hx=>by
  obtain⟨i,hi,e⟩:=RX hx
  rw[Ws] at hi
  rw[List.getElem_drop] at e
  have ex:xs[p+i]? = some x:=by rw[← QW,PJ (by lia),e]
  have:=h3 (p+i) x (by lia) ex
  rcases Sh j x with q | q
  ·exact q
  ·have ejx:x=j:=by lia
   subst ejx
   by_cases hi0:i=0
   ·subst hi0
    exact absurd ex hj
   ·have hps:p < xs.size:=by
     have:=(Array.getElem?_eq_some_iff.mp ex).1
     lia
    have:=wY h (show p < p+i by lia) (Qq hps) ex
    have:=h3 p _ (PX _) (Qq hps)
    lia
 rw[List.pairwise_append]
 refine⟨hh.sublist (List.take_sublist _ _),List.pairwise_cons.mpr ⟨hgt,hh.sublist (List.drop_sublist _ _)⟩,fun a ha b hb=>?_⟩
 rcases List.mem_cons.mp hb with rfl | hb
 ·exact hlt a ha
 ·exact Nat.lt_trans (hlt a ha) (hgt b hb)
def mL (t:UG) (j:Nat):Prop:=t.place[RK t.place j]?≠some j
theorem oX {t:UG} {j:Nat} (h:t.slot j = .empty∨t.slot j = .dummy):mL t j:=by
 intro e
 unfold SetTable.slot at h
 dsimp only at h
 rw[e,if_pos (by exact beq_self_eq_true _)] at h
 rcases h with h | h <;> cases h
theorem j6 {t:UG} {f:Nat->Int} {h:Int}:∀ (fuel:Nat) (p:SetTable.Probe) {j:Nat} {d:Option Nat},(∀ x,p.dummy=some x->mL t x)->Xo t f h fuel p=some (.empty j d)->mL t j/\∀ x,d=some x->mL t x
 | 0,_,_,_,_,e=>by rw[Xo] at e; cases e
 | fuel+1,p,j,d,hd,e=>by
  rw[Xo] at e
  have adv:∀ q:SetTable.Probe,(t.advance q).dummy=q.dummy:=fun q=>by
   unfold SetTable.advance
   split <;> rfl
  cases hs:t.slot p.j with
  | empty =>
   rw[hs] at e
   cases e
   exact⟨oX (.inl hs),hd⟩
  | dummy =>
   rw[hs] at e
   dsimp only at e
   refine j6 fuel _ (fun x hx=>?_) e
   rw[adv] at hx
   cases hx
   exact oX (.inr hs)
  | live i =>
   rw[hs] at e
   dsimp only at e
   by_cases hc:(f i == h)=true
   ·rw[if_pos hc] at e
    cases e
   ·rw[if_neg hc] at e
    exact j6 fuel _ (fun x hx=>by rw[adv] at hx; exact hd x hx) e
theorem uW {t:UG} {h:Int} {j:Nat} {b:Bool} (e:t.freeSlot h=some (j,b)):mL t j:=by
 unfold SetTable.freeSlot SetTable.probe at e
 split at e
 ·rename_i j' d hp
  obtain⟨h1,h2⟩:=j6 _ _ (fun x hx=>by cases hx) hp
  cases e
  cases d with
  | none=>exact h1
  | some x=>exact h2 x rfl
 ·cases e
structure TOk (b:Bool) (t:UG):Prop where
 led:t.led=b
 ris:t.plain=true->Ris t.place
theorem zV (b:Bool):TOk b (.fresh 0 0 b):=⟨rfl,fun _=>Xu⟩
theorem gZ {b:Bool} {t:UG} (h:TOk b t) (n:Nat):TOk b (t.standIn n):=⟨h.led,fun z=>by cases z⟩
theorem yH {b:Bool} {t:UG} (h:TOk b t) (es:Array (Int × Value)) (k:Int) (x:Value):TOk b (layNew t es k x).2.1:=by
 unfold layNew
 split
 ·rename_i slot wd e
  dsimp only
  unfold SetTable.orStandIn
  have ht:TOk b (t.put slot).1:=⟨h.led,fun z=>Jy (h.ris z) (uW e)⟩
  split
  ·exact ht
  ·exact gZ ht _
 ·exact gZ h _
theorem DQ (owner:Array (Option Nat)):∀ l:List Nat,l.Pairwise (· < ·)->((l.filterMap fun j=>(owner.getD j none).map (j,·)).map (·.1)).Pairwise (· < ·):=fun l hl=>by
 have hs:List.Sublist ((l.filterMap fun j=>(owner.getD j none).map (j,·)).map (·.1)) l:=by
  induction l with
  | nil=>exact List.Sublist.slnil
  | cons a r ih =>
   have ih:=ih (List.pairwise_cons.mp hl).2
   rw[VR]
   cases e:owner.getD a none with
   | none=>exact ih.cons _
   | some k=>exact ih.cons₂ _
 exact hl.sublist hs
theorem rC {b:Bool} {t:UG} (h:TOk b t) (es:Array (Int × Value)) (m:Nat):TOk b (Xj t es m).2.1:=by
 unfold Xj
 split
 ·rename_i t' order e
  dsimp only
  split
  ·unfold SetTable.relaid SetTable.laid at e
   cases ho:SetTable.layClean (SetTable.sizeAbove m - 1) (es.map (·.1)) with
   | none=>rw[ho] at e; cases e
   | some owner =>
    rw[ho] at e
    cases e
    exact⟨h.led,fun _=>DQ owner _ List.pairwise_lt_range⟩
  ·exact gZ h _
 ·exact gZ h _
end L2
namespace L2
open PySem PySem.Spec PyProof.Rows
section
variable {P:Qx} {w:QG} {A:QK} {E:Value->PB->Prop} {s:PB}
def km (P:Qx) (w:QG) (b:Bool) (h:Rb) (a:Addr) (ks:List Int):Prop :=
 ∃ o es ep t,h.get? a=some o/\o.ExactSet/\o.data = .set es ep t/\ElemsOf (UW P w) es.toList/\t.fits es.size=true/\TOk b t/\∃ ns,Rh (es.toList.map (·.2)) ns/\ns.Perm ks
theorem fQ {l l':List Value} (p:l.Perm l'):∀ {ns:List Int},Rh l ns->∃ ms,Rh l' ms/\ms.Perm ns:=by
 induction p with
 | nil=>intro ns h; exact⟨ns,h,.refl _⟩
 | cons x p ih =>
  intro ns h
  cases h with
  | cons n t r =>
   obtain⟨ms,h1,h2⟩:=ih r
   exact⟨n::ms,.cons n t h1,h2.cons n⟩
 | swap x y l =>
  intro ns h
  cases h with
  | cons n t r =>
   cases r with
   | cons m u r=>exact⟨m::n::_,.cons m u (.cons n t r),.swap _ _ _⟩
 | trans p q ih1 ih2 =>
  intro ns h
  obtain⟨ms,h1,h2⟩:=ih1 h
  obtain⟨ks,h3,h4⟩:=ih2 h1
  exact⟨ks,h3,h4.trans h2⟩
theorem lB {k:Int} {t:Tok}:∀ {l:List Value} {ns:List Int},Rh l ns->Rh (l++[.int k t]) (ns++[k])
 | _,_,.nil=>.cons k t .nil
 | _,_,.cons n u r=>.cons n u (lB r)
theorem mY {k:Int}:∀ {l:List Value} {ns:List Int},Rh l ns->(k∈ns ↔ ∃ v∈l,(UW P w).is k v=true)
 | _,_,.nil=>by simp
 | _,_,.cons n t r=>by
  have ih:=mY (k:=k) r
  have e:(UW P w).is k (.int n t)=decide (k=n):=KeyKind.is_eq_decide (intKind_is _ _ _ _) k
  rw[Ri,ih]
  constructor
  ·rintro (h | ⟨v,hv,q⟩)
   ·exact⟨_,Qa,by rw[e]; exact decide_eq_true h⟩
   ·exact⟨v,Qg _ hv,q⟩
  ·rintro⟨v,hv,q⟩
   rcases List.mem_cons.mp hv with rfl | hv
   ·rw[e] at q
    exact .inl (of_decide_eq_true q)
   ·exact .inr ⟨v,hv,q⟩
theorem lK {b:Bool} {h:Rb} {a:Addr} {o:Tv} {es es':Array (Int × Value)} {ep:Nat} {t t':UG} {ks:List Int} (ho:h.get? a=some o) (hx:o.ExactSet) (hd:o.data = .set es ep t)
  (hel:ElemsOf (UW P w) es'.toList) (hf:t'.fits es'.size=true) (tk:TOk b t') (hn:∃ ns,Rh (es'.toList.map (·.2)) ns/\ns.Perm ks) :
  (h.update a (Xe es' t')).get? a=some { o with data:=.set es' (ep+1) t' }/\km P w b (h.update a (Xe es' t')) a ks:=by
 have g:(h.update a (Xe es' t')).get? a=some { o with data:=.set es' (ep+1) t' }:=by
  have q:=Q8 (Xe es' t') ho (by rw[putSet_of es' t' hd]; rfl)
  rwa [putSet_of es' t' hd] at q
 exact⟨g,_,es',ep+1,t',g,hx,rfl,hel,hf,tk,hn⟩
theorem JM {b:Bool} {a:Addr} {ks:List Int} {k:Int} {t0:Tok} {Q:Bool->PB->Prop} (hS:km P w b s.heap a ks) (hroom:ks.length+1 < scanBound)
  (h:∀ h' r,Sq a s.heap h'->km P w b h' a (step_dedup ks k)->Q r { s with heap:=h' }):Qd (Qt P w) A (setAddHashed a (.int k t0) ((UW P w).hash k)) Q E s:=by
 obtain⟨o,es,ep,t,ho,hx,hd,hel,hf,tk,ns,hi,hp⟩:=hS
 have key:(UW P w).is k (.int k t0)=true:=intKind_is _ _ _ _
 have hlen:es.size=ks.length:=by
  rw[← hp.length_eq,← hi.length,Py,Qw]
 have hb:es.size < scanBound:=by lia
 have hm:=mY (P:=P) (w:=w) (k:=k) hi
 unfold setAddHashed setAddHashedIn
 refine S6 (Px (Us ho hd hf ?_))
 dsimp only
 rw[byScan_of rfl hb hel]
 simp only[↓reduceIte]
 unfold setAddByScan
 refine Px (Px (Uv (Px (wpAny_setScan_of key ho hd hf hel ?_))))
 cases hr:es.toList.findIdx? (fun e=>(UW P w).is k e.2) with
 | some j =>
  dsimp only
  obtain⟨hj,q,_⟩:=List.findIdx?_eq_some_iff_getElem.mp hr
  have hk:k∈ks:=hp.mem_iff.mp (hm.mpr ⟨es.toList[j].2,List.mem_map.mpr ⟨_,Rg hj,rfl⟩,q⟩)
  have es0:step_dedup ks k=ks:=by
   unfold step_dedup
   have hany:(ks.any fun x=>x == k)=true:=List.any_eq_true.mpr ⟨k,hk,beq_self_eq_true k⟩
   rw[if_pos hany]
  have q':=h s.heap false (Heap.SameBut.refl a s.heap) (by rw[es0]; exact⟨o,es,ep,t,ho,hx,hd,hel,hf,tk,ns,hi,hp⟩)
  exact PK (PK q')
 | none =>
  dsimp only
  have hk:k ∉ ks:=fun z=>by
   obtain⟨v,hv,q⟩:=hm.mp (hp.mem_iff.mpr z)
   obtain⟨e,he,rfl⟩:=List.mem_map.mp hv
   rw[List.findIdx?_eq_none_iff.mp hr e he] at q
   cases q
  have es0:step_dedup ks k=ks++[k]:=by
   unfold step_dedup
   rw[if_neg]
   intro z
   obtain⟨x,hx',e⟩:=List.any_eq_true.mp z
   exact hk (by rw[← eq_of_beq e]; exact hx')
  rw[es0] at h
  have pm:=layNew_perm t es ((UW P w).hash k) (.int k t0)
  have ft:=layNew_fits t es ((UW P w).hash k) (.int k t0)
  have tk1:=yH tk es ((UW P w).hash k) (.int k t0)
  generalize layNew t es ((UW P w).hash k) (.int k t0)=L at pm ft tk1 ⊢
  obtain⟨es1,t1,wd,gv⟩:=L
  dsimp only at pm ft tk1 ⊢
  rw[Array.toList_push] at pm
  have hel1:ElemsOf (UW P w) es1.toList:=(hel.push key rfl).perm pm
  have hn1:∃ ns,Rh (es1.toList.map (·.2)) ns/\ns.Perm (ks++[k]):=by
   have i1:Rh ((es.toList++[((UW P w).hash k,TY k t0)]).map (·.2)) (ns++[k]):=by
    rw[PQ]
    exact lB hi
   obtain⟨ms,h1,h2⟩:=fQ (pm.symm.map (·.2)) i1
   exact⟨ms,h1,h2.trans (hp.append (.refl _))⟩
  have hs1:es1.size<=sizeLine:=by
   have:es1.size=es.size+1:=by rw[← Qw,pm.length_eq,Qj,Qw]; rfl
   exact fits_of_scanBound (by lia)
  have gw:∀ (b:Bool) {s₁:PB} {Q':Unit->PB->Prop},Q' () s₁->Qd (Qt P w) A (match b with | true=>rule "set.scan.the-table-gave-way" | false=>pure ()) Q' E s₁:=fun b s₁ Q' hq=>by
   cases b
   ·exact PK hq
   ·exact Uv hq
  have tail:∀ (g:Bool->Sem Unit) (R:Option Bool->PB->Prop) (t2:UG),(∀ (b:Bool) (s₁:PB) (Q':Unit->PB->Prop),Q' () s₁->Qd (Qt P w) A (g b) Q' E s₁)->t2.fits es1.size=true->TOk b t2 →
    (∀ h',Sq a s.heap h'->km P w b h' a (ks++[k])->R (some true) { s with heap:=h' })->Qd (Qt P w) A (do
    storeSet a es1 t2
    if (!wd && t2.tooFull)=true then do
      g (Xj t2 es1 (Uz es1.size)).2.2
      storeSet a (Xj t2 es1 (Uz es1.size)).1 (Xj t2 es1 (Uz es1.size)).2.1
      pure (some true)
     else pure (some true)) R E s:=fun g R t2 hg f2 k2 hR=>by
   refine Px (wpAny_storeSet_of ho hd ?_ hs1)
   obtain⟨ho1,hS1⟩:=lK (P:=P) (w:=w) ho hx hd hel1 f2 k2 hn1
   have sb1:=Ro s.heap a (Xe es1 t2)
   split
   ·have pr:=relayAll_perm t2 es1 (Uz es1.size)
    have fr:=relayAll_fits t2 es1 (Uz es1.size)
    have tr:=rC k2 es1 (Uz es1.size)
    generalize Xj t2 es1 (Uz es1.size)=R at pr fr tr ⊢
    obtain⟨es2,t3,g2⟩:=R
    dsimp only at pr fr tr ⊢
    have hn2:∃ ns,Rh (es2.toList.map (·.2)) ns/\ns.Perm (ks++[k]):=by
     obtain⟨ns1,i1,p1⟩:=hn1
     obtain⟨ms,h1,h2⟩:=fQ (pr.symm.map (·.2)) i1
     exact⟨ms,h1,h2.trans p1⟩
    have hs2:es2.size<=sizeLine:=by
     have:es2.size=es1.size:=by rw[← Qw,pr.length_eq,Qw]
     lia
    refine Px (hg _ _ _ (Px (wpAny_storeSet_of ho1 rfl ?_ hs2)))
    obtain⟨_,hS2⟩:=lK (P:=P) (w:=w) ho1 hx rfl (hel1.perm pr) fr tr hn2
    exact PK (hR _ (sb1.trans (Ro _ a _)) hS2)
   ·exact PK (hR _ sb1 hS1)
  refine Px (gw _ ?_)
  split
  ·refine Px ?_
   rw[hashByValue_scannable 8 rfl]
   refine PK (tail _ _ _ (fun b s₁ Q' hq=>gw b hq) ?_ ?_ fun h' sb hS=>PK (h h' true sb hS))
   ·exact ft
   ·exact tk1
  ·exact Px (PK (tail _ _ _ (fun b s₁ Q' hq=>gw b hq) ft tk1 fun h' sb hS=>PK (h h' true sb hS)))
end
end L2
namespace L2
open PySem PySem.Spec PyProof.Rows
theorem jV {P:Qx} {w:QG} {b:Bool} {h h':Rb} {a:Addr} {ks:List Int} (hk:∀ o,h.get? a=some o->h'.get? a=some o) (hS:km P w b h a ks):km P w b h' a ks:=by
 obtain⟨o,es,ep,t,ho,r⟩:=hS
 exact⟨o,es,ep,t,hk o ho,r⟩
section
variable {P:Qx} {w:QG} {A:QK} {R:Xd->PB->Prop} {I:Addr} {fp wr:List Addr} {G:Array GenState->Array GenState->Prop} {n:Nat} {Pv:Nat->Value->Prop} {St:Nat->PB->Prop} {b:Bool}
theorem Eg (W:WalksS P w A.in1 I fp wr G n Pv St) (S:Addr) (hS:S ∉ fp) (val:Nat->Int) (hv:∀ i v,Pv i v->∃ t,v = .int (val i) t) (hb:n+1 < scanBound) :
  ∀ (k i:Nat) (s:PB),n - i=k->i<=n->St i s->km P w b s.heap S (firstMet val i)->(∀ s',Moved (S::wr) G s s'->km P w b s'.heap S (firstMet val n)->R (.ok (.ret .none)) s') →
   U0 (Qt P w) A (.builtin "set.update.loop" ⟨[.ref S,.ref I],[]⟩) R s:=by
 have nw:S ∉ wr:=fun z=>hS (W.sub _ z)
 have sub:∀ x∈wr,x∈S::wr:=fun x hx=>Qg _ hx
 intro k
 induction k with
 | zero =>
  intro i s hk hi st hs hR
  obtain rfl:i=n:=by lia
  refine RZ F.entry_set_update_loop ?_
  rw[RD Wu _]
  refine (show Qd _ A.in1 (Th (.ref I) >>= _) _ _ s from Px (W.done s _ _ st fun s' hm=>?_))
  exact (show Qd _ A.in1 (ret QZ) _ _ s' from PK (hR s' (hm.mono sub) (jV (fun o e=>hm.heap S o nw e) hs)))
 | succ k ih =>
  intro i s hk hi st hs hR
  have lt:i < n:=by lia
  refine RZ F.entry_set_update_loop ?_
  rw[RD Wu _]
  refine (show Qd _ A.in1 (Th (.ref I) >>= _) _ _ s from Px (W.item i s _ _ lt st fun v s' hP st' hm=>?_))
  obtain⟨t,rfl⟩:=hv i v hP
  have hs':=jV (h':=s'.heap) (fun o e=>hm.heap S o nw e) hs
  have room:(firstMet val i).length+1 < scanBound:=by
   have:=firstMet_length_le val i
   lia
  refine (show Qd _ A.in1 (holding [TY (val i) t] (setAdd S (.int (val i) t)) >>= _) _ _ s' from Px (S6 ?_))
  unfold setAdd
  refine S6 (Px ((UW P w).pyHash (k:=val i) (intKind_is _ _ _ _) ?_))
  refine JM (s:={ s' with toks:=s'.toks+1 }) hs' room fun h' r sb hn=>?_
  rw[← firstMet_succ] at hn
  refine PK ⟨Sy Wu _,ih (i+1) _ (by lia) lt (W.frame _ s' _ _ st' (Tq _) fun x hx o e=>?_) hn fun s'' hm'' hs''=>?_⟩
  ·rw[sb.2 x (fun z:x=S=>hS (by rw[← z]; exact hx))]
   exact e
  ·refine hR s'' (Moved.trans W.gtrans ((hm.mono sub).then_heap (Tq _) fun x o hx e=>?_) hm'') hs''
   rw[sb.2 x (fun z:x=S=>hx (by rw[z]; exact Qa))]
   exact e
end
end L2
namespace L2
open PySem PySem.Spec PyProof.Rows
section
variable {P:Qx} {w:QG} {A:QK} {E:Value->PB->Prop} {s:PB}
def Gf (w:QG):Bool:=!w.params.followText "set-order"
def newS (w:QG):Tv:={ cls:=.type "set",dict:=none,data:=.set #[] 0 (.fresh 0 0 (Gf w)) }
theorem Ik (a:Value) {Q₁:Value->PB->Prop} (h:Q₁ (.ref s.heap.objs.size) { s with heap:=s.heap.push (newS w) }) :
  U0 (Qt P w) A (.call (.builtin "set.__new__") ⟨[.type "set",a],[]⟩) (wants Q₁ E) s:=by
 refine codeAny_of_tree (show Qd _ A.in1 (do XM "set.__new__" ⟨[.type "set",a],[]⟩; again (.builtin "set.__new__" ⟨[.type "set",a],[]⟩)) _ _ s from ?_)
 refine Px (S5 (PySem.F.newCall_set_1 a) (PK ⟨Sy PySem.F.plain_set_new _,RZ PySem.F.entry_set_new ?_⟩))
 rw[RD PySem.F.plain_set_new _]
 unfold Ss.«set.__new__» Builtin.Frozenset.newClass; have hsub:=sub_set_self; obtain⟨hp,g,d,tk,os⟩:=s
 dsimp only
 wp_walk
 refine UT (PK ?_)
 dsimp only
 simp only[newObj]; refine Px (wpAny_alloc (PK ?_))
 exact PK h
end
end L2
namespace L2
open PySem PySem.Spec PyProof.Rows
section
variable {P:Qx} {w:QG} {A:QK} {E:Value->PB->Prop} {s:PB}
set_option maxRecDepth 100000 in
set_option maxHeartbeats 3200000 in
theorem vL {l:Addr} {items:Array Value} {ns:List Int} {Q:Value->PB->Prop} (hh:A.handled=none) (hl:s.heap.IsList l items) (hi:Rh items.toList ns) (hb:items.size+1 < scanBound)
  (h:∀ (h':Rb) (tk:Nat),km P w (Gf w) h' s.heap.objs.size (firstMet (fun i=>ns.getD i 0) items.size)->(∀ b o,b < s.heap.objs.size->s.heap.get? b=some o->h'.get? b=some o)->Q (.ref s.heap.objs.size) { s with heap:=h',toks:=tk }) :
  Qd (Qt P w) A (call (.type "set") [.ref l]) Q E s:=by
 obtain⟨c,tl,hmro⟩:=PySem.F.called_set.mro
 have hmade:=PySem.F.called_set.made
 have hsub:=PySem.F.called_set.sub
 refine wpAny_call (codeAny_of_tree (show Qd _ _ (callAny (.type "set") _) _ _ _ from PK ⟨Code.quiet_builtin _ (by decide+kernel),RZ PySem.F.entry_type_call ?_⟩))
 rw[Around.under_plain (weight_type_call_type "set" [.ref l] []) rfl]
 have h1:=PySem.F.called_set.notType
 have h2:=PySem.F.called_set.canCreate
 have hct:=PySem.F.typeCall_set_1 (.ref l)
 repeat (any_goals (first | assumption | wp_step))
 refine Ww (Ik (.ref l) (E:=E) (Q₁:=fun obj s₁=>obj = .ref s.heap.objs.size/\s₁={ s with heap:=s.heap.push (newS w) }) ⟨rfl,rfl⟩) fun r s₁ hr=>?_
 cases r with
 | error e=>exact hr
 | ok fl =>
  cases fl with
  | ret obj =>
   obtain⟨rfl,rfl⟩:=hr
   have gS:(s.heap.push (newS w)).get? s.heap.objs.size=some (newS w):=PN _ rfl
   have hT:Shared.TypeIs { s with heap:=s.heap.push (newS w) } (.ref s.heap.objs.size) "set":=⟨_,gS,rfl⟩
   have hli:=PySem.F.called_set.init.lookup
   have hbi:=PySem.F.called_set.init.bind (.ref s.heap.objs.size)
   repeat (any_goals (first | assumption | wp_step))
   refine Ww (codeAny_call_builtin (R:=wants (fun r s₂=>r = .none/\∃ h' tk,s₂={ s with heap:=h',toks:=tk }/\km P w (Gf w) h' s.heap.objs.size (firstMet (fun i=>ns.getD i 0) items.size) ∧
     (∀ b o,b < s.heap.objs.size->s.heap.get? b=some o->h'.get? b=some o)) E) PySem.F.called_set.init.plain PySem.F.entry_set_init (check_set_init_1 hT ?_)) fun r₂ s₂ hr₂=>?_
   ·obtain⟨ol,hol,hcl,nl,hdl⟩:=hl
    obtain⟨ocls,odict,odata,oslots⟩:=ol
    simp only at hcl hdl
    subst hcl hdl
    have hol':(s.heap.push (newS w)).get? l=some { cls:=.type "list",dict:=odict,data:=.seq items nl,slots:=oslots }:=Pz _ hol
    have hsls:=PySem.F.sub_list_set
    have hslf:=PySem.F.sub_list_frozenset
    have hne:(Ug "list" == Ug "dict")=false:=by decide
    have hl1:(s.heap.push (newS w)).IsList l items:=⟨_,hol',rfl,nl,rfl⟩
    have gS':(s.heap.push (newS w)).get? s.heap.objs.size=some { cls:=.type "set",dict:=none,data:=.set #[] 0 (.fresh 0 0 (Gf w)) }:=gS
    unfold Ss.«set.__init__» noKeywords Builtin.Frozenset.updateFrom; generalize hPI:pyIter=PI
    wp_walk
    subst hPI
    refine Ut hl1 (Px (wpAny_runValue ?_))
    have hlS:l < s.heap.objs.size:=Qf hol
    have hh3:A.in1.in1.in1.handled=none:=by simp [hh]
    have hneI:l≠(s.heap.push (newS w)).objs.size:=by
     rw[Q7]
     exact Qv (RB hlS)
    have hSf:s.heap.objs.size ∉ [(s.heap.push (newS w)).objs.size,l]:=by
     rw[Q7,Ri,Ui]
     rintro (z | z)
     ·exact absurd z (Qv (Te _))
     ·exact absurd z (R6 hlS)
    refine Eg (b:=Gf w) ((Walks.list hh3 _ l hneI items).toS) s.heap.objs.size hSf (fun i=>ns.getD i 0) (fun i v hv=>IntsAre.int_at hi i v (by rw[QW]; exact hv)) hb (items.size - 0) 0 _ (by lia) (QB _)
     ⟨⟨_,PN _ rfl,rfl,rfl⟩,(hl1.push _)⟩ ?hS0 ?hR
    case hS0=>exact⟨newS w,#[],0,_,Pz _ gS,⟨rfl,rfl,rfl⟩,rfl,(fun e he=>by simp at he),rfl,zV _,[],.nil,.refl _⟩
    case hR =>
     intro s' hm hS'
     obtain⟨h',g',d',tk',os'⟩:=s'
     obtain rfl:g'=s.gens:=hm.gens
     obtain rfl:d'=s.drawn:=hm.drawn
     obtain rfl:os'=s.os:=hm.os
     refine (show Qd _ _ _ _ _ _ from PK (show Qd _ _ (ret QZ) _ _ _ from PK ⟨rfl,h',tk',rfl,hS',fun b o hb e=>?_⟩))
     refine hm.heap b o ?_ (Pz _ (Pz _ e))
     rw[Ri,Ui,Q7]
     rintro (z | z)
     ·exact absurd z (Qv hb)
     ·exact absurd z (Qv (RB hb))
   ·cases r₂ with
    | error e=>exact hr₂
    | ok fl₂ =>
     cases fl₂ with
     | ret r =>
      obtain⟨rfl,h',tk,rfl,hS',hk'⟩:=hr₂
      repeat (any_goals (first | assumption | wp_step))
      exact h h' tk hS' hk'
     | _=>exact hr₂.elim
  | _=>exact hr.elim
end
end L2
namespace L2
open PySem PySem.Spec PyProof.Rows
theorem rZ:Manifest.owners.lookup (String.ofList ['r','o','t','a','r','e','t','i','_','t','e','s'].reverse)=some Manifest.sig_set_iterator:=by kernel_rfl
theorem bD:Slot "set_iterator" "__next__" "set_iterator.__next__" :=
 .of (owner:="set_iterator") (n:="__next__") (by rw[Vb,Tf]; kernel_rfl) (by decide+kernel) (by decide+kernel) (by decide+kernel) (by first | exact .inl (by decide+kernel) | exact .inr (by decide+kernel)) (by rw[TV]; kernel_rfl)
theorem fu:entryFor table "set_iterator.__next__" = some Ss.«set_iterator.__next__»:=entryFor_of_tree (by kernel_rfl)
theorem fP (a:Value):VF "set_iterator.__next__" ⟨[a],[]⟩:=by
 unfold VF
 rw[Wi (id:="set_iterator.__next__") (n:=['_','_','t','x','e','n','_','_']) (o:=['r','o','t','a','r','e','t','i','_','t','e','s']) (by kernel_rfl) rZ]
 kernel_rfl
theorem iD:Slot "set_iterator" "__iter__" "set_iterator.__iter__" :=
 .of (owner:="set_iterator") (n:="__iter__") (by rw[Vb,Tf]; kernel_rfl) (by decide+kernel) (by decide+kernel) (by decide+kernel) (by first | exact .inl (by decide+kernel) | exact .inr (by decide+kernel)) (by rw[TV]; kernel_rfl)
theorem lV:entryFor table "set_iterator.__iter__" = some Ss.«dict_keyiterator.__iter__»:=entryFor_alias (id':="dict_keyiterator.__iter__") (by kernel_rfl) rfl (by decide+kernel) (by kernel_rfl)
theorem nT (a:Value):VF "set_iterator.__iter__" ⟨[a],[]⟩:=by
 unfold VF
 rw[Wi (id:="set_iterator.__iter__") (n:=['_','_','r','e','t','i','_','_']) (o:=['r','o','t','a','r','e','t','i','_','t','e','s']) (by kernel_rfl) rZ]
 kernel_rfl
theorem m6:entryFor table "set.__iter__" = some Ss.«frozenset.__iter__»:=entryFor_alias (id':="frozenset.__iter__") (by kernel_rfl) rfl (by decide+kernel) (by kernel_rfl)
theorem j0 {α:Type}:∀ (l:List α) (j:Nat) (h:j < l.length),(l[j]::l.eraseIdx j).Perm l
 | a::r,0,_=>.refl _
 | a::r,j+1,h=>by
  have ih:=j0 r j (Wz h)
  rw[List.getElem_cons_succ,List.eraseIdx_cons_succ]
  exact (List.Perm.swap _ _ _).trans (ih.cons a)
theorem qQ {α:Type} (nx:Nat->Nat):∀ (fuel k:Nat) (left:List α) (out:Array α),left.length<=fuel->(pickOrder.go nx fuel k left out).toList.Perm (out.toList++left)
 | 0,k,left,out,h=>by
  rw[pickOrder.go]
  have e:left=[]:=X5 (by lia)
  subst e
  rw[SN]
 | fuel+1,k,left,out,h=>by
  rw[pickOrder.go]
  cases hl:left with
  | nil =>
   simp
  | cons a r =>
   have hlen:nx k % (a::r).length < (a::r).length:=Nat.mod_lt _ (by simp)
   rw[PJ hlen]
   dsimp only
   generalize nx k % (a::r).length=j at hlen ⊢
   have ih:=qQ nx fuel (k+1) ((a::r).eraseIdx j) (out.push (a::r)[j]) (by rw[List.length_eraseIdx_of_lt hlen,← hl]; lia)
   refine ih.trans ?_
   rw[Array.toList_push,Tt]
   refine List.Perm.append (.refl _) ?_
   show ((a::r)[j]::(a::r).eraseIdx j).Perm (a::r)
   exact j0 _ j hlen
theorem nY {α:Type} (nx:Nat->Nat) (xs:Array α):(Vp nx xs).toList.Perm xs.toList:=by
 unfold Vp
 have:=qQ nx xs.size 0 xs.toList #[] (by rw[Qw]; exact PX _)
 simpa using this
section
variable {P:Qx} {w:QG} {A:QK} {E:Value->PB->Prop} {s:PB}
theorem sS {α:Type} {Q:List α->PB->Prop}:∀ (n:Nat) (xs:List α) (s:PB),xs.length=n->(∀ ys d,ys.Perm xs->Q ys { s with drawn:=d })->Qd (Qt P w) A (drawOrder n xs) Q E s
 | 0,xs,s,h,hq=>by
  rw[drawOrder]
  have e:xs=[]:=X5 h
  subst e
  exact PK (hq [] s.drawn (.refl _))
 | n+1,[],s,h,hq=>by cases h
 | n+1,x::xs,s,h,hq=>by
  rw[drawOrder]
  ·refine Px (fun Γ p hΓ=>?_)
   show Sem.wp _ _ (.choose .order (x::xs).length .pure) _ _ _ _
   rw[Sem.wp_choose]
   refine⟨by simp,?_⟩
   rw[Sem.wp_pure]
   generalize (Qt P w).w.draws .order (s.drawn.get .order)=z
   have hlen:z % (x::xs).length < (x::xs).length:=Nat.mod_lt _ (by simp)
   generalize z % (x::xs).length=j at hlen ⊢
   show Qd _ _ _ _ _ _
   rw[PJ hlen]
   dsimp only
   refine Px (sS n ((x::xs).eraseIdx j) _ (by rw[List.length_eraseIdx_of_lt hlen]; rw[Qo] at h ⊢; lia) fun ys d p=>PK ?_)
   exact hq _ d ((p.cons _).trans (j0 _ j hlen))
  ·simp
end
end L2
namespace L2
open PySem PySem.Spec PyProof.Rows
def SIt (h:Rb) (I S:Addr) (f:Value) (i n ep:Nat):Prop:=h.get? I=some { cls:=.type "set_iterator",dict:=none,data:=.fields #[f,.int i 0,.ref S,.int n 0,.int ep 0],slots:=#[] }
section
variable {P:Qx} {w:QG} {A:QK} {E:Value->PB->Prop} {s:PB} {I S:Addr} {o:Tv} {es:Array (Int × Value)} {ep:Nat} {t:UG}
theorem pM {sl:Int} {tk:Tok} {i:Nat} {Q:Option Value->PB->Prop} {r:Option (Value × Nat)} (hh:A.handled=none) (hI:SIt s.heap I S (.int sl tk) i es.size ep) (hS:s.heap.get? S=some o) (hd:o.data = .set es ep t) (hf:t.fits es.size=true)
  (hn:∀ (A:QK) (E:Value->PB->Prop) (Q:Option (Value × Nat)->PB->Prop),Q r s->Qd (Qt P w) A (Yg S sl.toNat i ep) Q E s)
  (hs:∀ x j h',r=some (x,j)->SIt h' I S (.int (j:Nat) 0) (i+1) es.size ep->Sq I s.heap h'->Q (some x) { s with heap:=h' }) (he:∀ h',r=none->Heap.ExtBut I s.heap h'->Q none { s with heap:=h' }):Qd (Qt P w) A (Th (.ref I)) Q E s:=by
 have hT:s.TypeIs (.ref I) "set_iterator":=⟨_,hI,rfl⟩
 unfold Th
 refine Px (S7 (Q3 (name:=Sg "__next__") hT bD (Ra bD hT fu ?_ (fP _))))
 refine (show Qd _ _ (fieldsOf (.ref I) >>= _) _ _ s from Px (wpAny_fieldsOf hI rfl ?_))
 refine (show Qd _ _ (setEntries S >>= _) _ _ s from Px (VM hS hd hf ?_))
 rw[if_neg (by simp)]
 refine (show Qd _ _ (Yg S sl.toNat (i:Int).toNat (ep:Int).toNat >>= _) _ _ s from Px ?_)
 rw[QC,QC]
 refine hn _ _ _ ?_
 cases hr:r with
 | some xj =>
  obtain⟨x,j⟩:=xj
  dsimp only
  refine Px (Sd hI rfl (by simp) ?_)
  have g1:=Q8 (Vt (·.setIfInBounds 0 (RJ (j:Int)))) hI rfl
  refine Px (Sd g1 rfl (by simp) ?_)
  have g2:=Q8 (Vt (·.setIfInBounds 1 (RJ ((i:Int)+1)))) g1 rfl
  refine PK ⟨x,rfl,PK (hs x j _ hr ?_ ((Ro ..).trans (Ro ..)))⟩
  exact g2
 | none =>
  dsimp only
  refine Px (Sd hI rfl (by simp) ?_)
  refine (show Qd _ _ (XJ (.type "StopIteration") [] >>= _) _ _ _ from Px ?_)
  simp only[XJ,newTuple]
  refine Px (QL ?_ (by size_fits))
  refine Px (m:=TX _ _) (S5 (a:=QZ) (by first | rfl | (simp only[TX]; rfl)) (QL ?_ (by size_fits)))
  simp only[raiseNew]
  refine Px (W5 ?_)
  first | rw[show A.in1.handled=none from hh] | rw[hh]
  refine Px (PK (X3 ?_))
  refine Px (TQ (T:="StopIteration") (b:=true) ⟨_,PN _ rfl,rfl⟩ V5 (PK ?_))
  exact he _ hr (((Ro ..).extBut.push _).push _)
end
end L2
namespace L2
open PySem PySem.Spec PyProof.Rows
section
variable {P:Qx} {w:QG} {A:QK} {E:Value->PB->Prop} {s:PB} {I S:Addr} {o:Tv} {es:Array (Int × Value)} {ep:Nat} {t:UG}
theorem qZ {sl i:Nat} {Q:Option (Value × Nat)->PB->Prop} (hb:w.params.followText "set-order" = true) (hS:s.heap.get? S=some o) (hd:o.data = .set es ep t) (hf:t.fits es.size=true)
  (h:Q (((Vp (w.params.setOrder S ep) es)[i]?).map fun e=>(e.2,sl)) s):Qd (Qt P w) A (Yg S sl i ep) Q E s:=by
 unfold Yg
 refine Px (Us hS hd hf ?_)
 dsimp only
 unfold setsByText
 refine Px (Px (UT (PK ?_)))
 rw[if_pos (show (Qt P w).w.params.followText "set-order" = true from hb),if_neg (by simp)]
 unfold setWalk
 refine Px (Px (Us hS hd hf ?_))
 dsimp only
 unfold setsByText
 refine Px (Px (UT (PK ?_)))
 rw[if_pos (show (Qt P w).w.params.followText "set-order" = true from hb)]
 exact Px (UT (PK (PK h)))
theorem ph {sl i:Nat} {Q:Option (Value × Nat)->PB->Prop} (hb:w.params.followText "set-order" = false) (hS:s.heap.get? S=some o) (hd:o.data = .set es ep t) (hf:t.fits es.size=true) (hl:t.led=true)
  (hp:t.plain=true∨es.size<=1) (hi:RK t.place sl=i)
  (h:Q (match es[i]?,t.place[i]? with | some (_,x),some j=>some (x,j+1) | _,_=>none) s):Qd (Qt P w) A (Yg S sl i ep) Q E s:=by
 unfold Yg
 refine Px (Us hS hd hf ?_)
 dsimp only
 unfold setsByText
 refine Px (Px (UT (PK ?_)))
 rw[if_neg (show ¬ (Qt P w).w.params.followText "set-order" = true by rw[show (Qt P w).w.params.followText "set-order" = false from hb]; exact Qc)]
 have hdr:(!t.plain && decide (es.size > 1))=false:=by
  rcases hp with q | q
  ·rw[q]
   rfl
  ·rw[decide_eq_false (by lia),Bool.and_false]
 refine Tj (show decide ((!t.plain && decide (es.size > 1))=true)=false from decide_eq_false (by rw[hdr]; exact Qc)) ?_
 refine Px (show Qd _ _ (if (!t.led && !es.isEmpty)=true then unsupported "set:maker-not-led" else pure ()) _ _ _ from ?_)
 rw[hl]
 refine Tj (decide_eq_false (by simp)) (PK (PK ?_))
 rw[hi]
 exact h
theorem qM {f:Value} {i n:Nat} {Q:Value->PB->Prop} (hI:SIt s.heap I S f i n ep) (h:Q (.ref I) s):Qd (Qt P w) A (pyIter (.ref I)) Q E s:=by
 have hT:s.TypeIs (.ref I) "set_iterator":=⟨_,hI,rfl⟩
 refine Xh hT iD (Ra iD hT lV (show Qd _ _ (ret (.ref I)) _ _ s from ?_) (nT _))
 exact PK ⟨_,rfl,"set_iterator",_,hT,bD.lookup,h⟩
theorem zO (hh:A.handled=none) (hne:S≠I) (hb:w.params.followText "set-order" = true) (hd:o.data = .set es ep t) (hf:t.fits es.size=true) :
  Walks P w A I [I,S] [I] es.size (fun i v=>((Vp (w.params.setOrder S ep) es).toList.map (·.2))[i]? = some v) (fun i h=>(∃ (sl:Nat) (tk:Tok),SIt h I S (.int (sl:Int) tk) i es.size ep)/\h.get? S=some o) where
 sub:=fun b hb=>by simp at hb; simp [hb]
 frame:=fun i h h' st hk=>by
  obtain⟨⟨sl,tk,hI⟩,hS⟩:=st
  exact⟨⟨sl,tk,hk I (by simp) _ hI⟩,hk S (by simp) _ hS⟩
 item:=fun i s Q E hi st hQ=>by
  obtain⟨⟨sl,tk,hI⟩,hS⟩:=st
  have pl:(Vp (w.params.setOrder S ep) es).size=es.size:=by
   have:=(nY (w.params.setOrder S ep) es).length_eq
   simpa using this
  have hx:(Vp (w.params.setOrder S ep) es)[i]? = some ((Vp (w.params.setOrder S ep) es)[i]'(by lia)):=Qq _
  generalize (Vp (w.params.setOrder S ep) es)[i]'(by lia)=x at hx
  refine pM (r:=some (x.2,sl)) hh hI hS hd hf (fun A E Q q=>?_) (fun v j h' hr hI' sb=>?_) (fun h' hr _=>by cases hr)
  ·refine qZ hb hS hd hf ?_
   rw[QC,hx]
   exact q
  ·cases hr
   refine hQ _ h' s.toks ?_ ⟨⟨sl,0,hI'⟩,sb.2 S hne▸hS⟩ fun b o' hb' e=>?_
   ·rw[Qn,QW,hx]
    rfl
   ·rw[sb.2 b (fun z=>hb' (by rw[z]; exact List.mem_singleton.mpr rfl))]
    exact e
 done:=fun s Q E st hQ=>by
  obtain⟨⟨sl,tk,hI⟩,hS⟩:=st
  have pl:(Vp (w.params.setOrder S ep) es).size=es.size:=by
   have:=(nY (w.params.setOrder S ep) es).length_eq
   simpa using this
  refine pM (r:=none) hh hI hS hd hf (fun A E Q q=>?_) (fun v j h' hr=>by cases hr) (fun h' _ hx=>?_)
  ·refine qZ hb hS hd hf ?_
   rw[Uj (by lia)]
   exact q
  ·exact hQ h' s.toks fun b o' hb' e=>hx b o' (fun z=>hb' (by rw[z]; exact List.mem_singleton.mpr rfl)) e
 self:=fun i s Q E st hQ=>by
  obtain⟨⟨sl,tk,hI⟩,_⟩:=st
  exact qM hI hQ
def slotAt (pl:Array Nat):Nat->Nat
 | 0=>0
 | i+1=>pl.getD i 0+1
theorem lG {pl:Array Nat} (h:Ris pl):∀ {i:Nat},i<=pl.size->RK pl (slotAt pl i)=i
 | 0,_=>yV h
 | i+1,hi=>by
  have e:pl[i]? = some (pl.getD i 0):=by
   rw[Qq (by lia),RT,Qq (by lia)]
   rfl
  exact below_at h e
theorem yN (hh:A.handled=none) (hne:S≠I) (hb:w.params.followText "set-order" = false) (hd:o.data = .set es ep t) (hf:t.fits es.size=true) (hl:t.led=true) (hp:t.plain=true∨es.size<=1) (hr:Ris t.place) :
  Walks P w A I [I,S] [I] es.size (fun i v=>(es.toList.map (·.2))[i]? = some v) (fun i h=>(∃ tk:Tok,SIt h I S (.int (slotAt t.place i:Nat) tk) i es.size ep)/\h.get? S=some o) where
 sub:=fun b hb=>by simp at hb; simp [hb]
 frame:=fun i h h' st hk=>by
  obtain⟨⟨tk,hI⟩,hS⟩:=st
  exact⟨⟨tk,hk I (by simp) _ hI⟩,hk S (by simp) _ hS⟩
 item:=fun i s Q E hi st hQ=>by
  obtain⟨⟨tk,hI⟩,hS⟩:=st
  have ps:t.place.size=es.size:=by
   simp only[SetTable.fits,Rz,beq_iff_eq] at hf
   exact hf.1
  have hx:es[i]? = some es[i]:=Qq hi
  have hj:t.place[i]? = some (t.place.getD i 0):=by
   rw[Qq (by lia),RT,Qq (by lia)]
   rfl
  generalize es[i]=x at hx
  obtain⟨k,v⟩:=x
  refine pM (r:=some (v,t.place.getD i 0+1)) hh hI hS hd hf (fun A E Q q=>?_) (fun u j h' hr hI' sb=>?_) (fun h' hr _=>by cases hr)
  ·refine ph hb hS hd hf hl hp (i:=i) (by rw[QC]; exact lG hr (by lia)) ?_
   rw[hx,hj]
   exact q
  ·cases hr
   refine hQ _ h' s.toks ?_ ⟨⟨0,hI'⟩,sb.2 S hne▸hS⟩ fun b o' hb' e=>?_
   ·rw[Qn,QW,hx]
    rfl
   ·rw[sb.2 b (fun z=>hb' (by rw[z]; exact List.mem_singleton.mpr rfl))]
    exact e
 done:=fun s Q E st hQ=>by
  obtain⟨⟨tk,hI⟩,hS⟩:=st
  have ps:t.place.size=es.size:=by
   simp only[SetTable.fits,Rz,beq_iff_eq] at hf
   exact hf.1
  refine pM (r:=none) hh hI hS hd hf (fun A E Q q=>?_) (fun v j h' hr=>by cases hr) (fun h' _ hx=>?_)
  ·refine ph hb hS hd hf hl hp (i:=es.size) (by rw[QC]; exact lG hr (by lia)) ?_
   rw[Uj (PX _)]
   exact q
  ·exact hQ h' s.toks fun b o' hb' e=>hx b o' (fun z=>hb' (by rw[z]; exact List.mem_singleton.mpr rfl)) e
 self:=fun i s Q E st hQ=>by
  obtain⟨⟨tk,hI⟩,_⟩:=st
  exact qM hI hQ
end
end L2
namespace L2
open PySem PySem.Spec PyProof.Rows
section
variable {P:Qx} {w:QG} {A:QK} {E:Value->PB->Prop} {s:PB} {I S T:Addr} {o:Tv} {es:Array (Int × Value)} {ep:Nat} {t:UG}
def dg (pl:List Nat):List Value:=pl.map fun j:Nat=>RJ (j:Int)
theorem yU {pl:List Nat} (hh:A.handled=none) (hne:S≠I) (hnt:T≠I) (hd:o.data = .set es ep t) (hf:t.fits es.size=true) (hp:pl.Perm (P0 es.size)) :
  Walks P w A I [I,S,T] [I] es.size (fun i v=>(pl.map fun j=>(es.getD j (0,.none)).2)[i]? = some v) (fun i h=>SIt h I S (.ref T) i es.size ep/\h.get? S=some o/\h.IsTuple T (dg pl).toArray) where
 sub:=fun b hb=>by simp at hb; simp [hb]
 frame:=fun i h h' st hk=>by
  obtain⟨hI,hS,o',ho',r⟩:=st
  exact⟨hk I (by simp) _ hI,hk S (by simp) _ hS,o',hk T (by simp) _ ho',r⟩
 item:=fun i s Q E hi st hQ=>by
  obtain⟨hI,hS,hT⟩:=st
  have lp:pl.length=es.size:=by rw[hp.length_eq,Qs]
  have hT0:s.TypeIs (.ref I) "set_iterator":=⟨_,hI,rfl⟩
  obtain⟨j,hj⟩:∃ j,pl[i]? = some j:=⟨pl[i],PJ (by lia)⟩
  have hj2:j < es.size:=List.mem_range.mp (hp.mem_iff.mp (Qy hj))
  have hx:es[j]? = some (es.getD j (0,.none)):=by
   rw[Qq hj2,RT,Qq hj2]
   rfl
  obtain⟨ot,hot,hct,nt,hdt⟩:=id hT
  unfold Th
  refine Px (S7 (Q3 (name:=Sg "__next__") hT0 bD (Ra bD hT0 fu ?_ (fP _))))
  refine (show Qd _ _ (fieldsOf (.ref I) >>= _) _ _ s from Px (wpAny_fieldsOf hI rfl ?_))
  refine (show Qd _ _ (setEntries S >>= _) _ _ s from Px (VM hS hd hf ?_))
  rw[if_neg (by simp)]
  refine (show Qd _ _ (Wo (.ref T) >>= _) _ _ s from Px (Rf hot hdt ?_))
  have hpl:(dg pl).toArray[(i:Int).toNat]? = some (.int (j:Int) 0):=by
   rw[QC,WR]
   show (pl.map fun j:Nat=>RJ (j:Int))[i]? = _
   rw[Qn,hj]
   rfl
  dsimp only
  rw[hpl]
  dsimp only
  refine Px (show Qd _ _ (setNextDrawn S (j:Int).toNat (ep:Int).toNat) _ _ _ from ?_)
  unfold setNextDrawn
  refine Px (Us hS hd hf ?_)
  dsimp only
  rw[QC,QC,if_neg (by simp),hx]
  refine PK (Px (Sd hI rfl (by simp) ?_))
  have g1:=Q8 (Vt (·.setIfInBounds 1 (RJ ((i:Int)+1)))) hI rfl
  refine PK ⟨_,rfl,PK (hQ _ _ s.toks ?_ ⟨g1,?_,?_⟩ fun b o' hb' e=>?_)⟩
  ·rw[Qn,hj]
   rfl
  ·rw[Q0 _ _ (TF hne)]
   exact hS
  ·exact⟨ot,by rw[Q0 _ _ (TF hnt)]; exact hot,hct,nt,hdt⟩
  ·rw[Q0 _ _ (fun z:I=b=>hb' (by rw[z]; exact List.mem_singleton.mpr rfl))]
   exact e
 done:=fun s Q E st hQ=>by
  obtain⟨hI,hS,hT⟩:=st
  have lp:pl.length=es.size:=by rw[hp.length_eq,Qs]
  have hT0:s.TypeIs (.ref I) "set_iterator":=⟨_,hI,rfl⟩
  obtain⟨ot,hot,hct,nt,hdt⟩:=id hT
  unfold Th
  refine Px (S7 (Q3 (name:=Sg "__next__") hT0 bD (Ra bD hT0 fu ?_ (fP _))))
  refine (show Qd _ _ (fieldsOf (.ref I) >>= _) _ _ s from Px (wpAny_fieldsOf hI rfl ?_))
  refine (show Qd _ _ (setEntries S >>= _) _ _ s from Px (VM hS hd hf ?_))
  rw[if_neg (by simp)]
  refine (show Qd _ _ (Wo (.ref T) >>= _) _ _ s from Px (Rf hot hdt ?_))
  have hpl:(dg pl).toArray[(es.size:Int).toNat]? = none:=by
   rw[QC,WR]
   show (pl.map fun j:Nat=>RJ (j:Int))[es.size]? = _
   rw[Qn,Rk (by lia)]
   rfl
  dsimp only
  rw[hpl]
  dsimp only
  refine Px (Sd hI rfl (by simp) ?_)
  have g1:=Q8 (Vt (·.setIfInBounds 0 (RJ 0))) hI rfl
  refine Px (Sd g1 rfl (by simp) ?_)
  refine (show Qd _ _ (XJ (.type "StopIteration") [] >>= _) _ _ _ from Px ?_)
  simp only[XJ,newTuple]
  refine Px (QL ?_ (by size_fits))
  refine Px (m:=TX _ _) (S5 (a:=QZ) (by first | rfl | (simp only[TX]; rfl)) (QL ?_ (by size_fits)))
  simp only[raiseNew]
  refine Px (W5 ?_)
  first | rw[show A.in1.handled=none from hh] | rw[hh]
  refine Px (PK (X3 ?_))
  refine Px (TQ (T:="StopIteration") (b:=true) ⟨_,PN _ rfl,rfl⟩ V5 (PK ?_))
  refine hQ _ s.toks fun b o' hb' e=>?_
  have hbI:b≠I:=fun z=>hb' (by rw[z]; exact List.mem_singleton.mpr rfl)
  exact ((((Ro ..).trans (Ro ..)).extBut.push _).push _) b o' hbI e
 self:=fun i s Q E st hQ=>qM st.1 hQ
end
end L2
namespace L2
open PySem PySem.Spec PyProof.Rows
section
variable {P:Qx} {w:QG} {A:QK} {E:Value->PB->Prop} {s:PB} {S:Addr}
theorem FZ {Q:Bool->PB->Prop} (hT:s.TypeIs (.ref S) "set") (h:Q false s):Qd (Qt P w) A (Yj (.ref S)) Q E s:=by
 unfold Yj; refine Px (VD hT PySem.F.slot_set_len.lookup ?_)
 generalize hid:("set.__len__" : String)=id0
 wp_delta
 rw[show splitId id0=some ("set","__len__") from by subst hid; decide+kernel]
 subst hid
 refine Px (TQ (T:="set") (b:=true) hT (by rw[TV]; kernel_rfl) ?_)
 refine X6 (fun z=>absurd z (by decide)) (fun _=>X6 (fun _=>?_) (fun z=>absurd (by decide+kernel) z))
 exact Px (wpAny_typeOf hT (PK h))
theorem Ez {b:Bool} {ks:List Int} {Q:Value->PB->Prop} (hh:A.handled=none) (hb:b=Gf w) (hS:km P w b s.heap S ks) (hz:ks.length<=sizeLine)
  (h:∀ (I:Addr) (fp:List Addr) (n:Nat) (vs:List Value) (ns:List Int) (St:Nat->Rb->Prop) (s':PB),Walks P w A I fp [I] n (fun i v=>vs[i]? = some v) St->St 0 s'.heap->Rh vs ns->ns.Perm ks->vs.length=n->(∀ x∈fp,x=S∨s.heap.objs.size<=x)->s.heap.objs.size<=I →
   s'.os=s.os->s'.gens=s.gens->(∀ b o,s.heap.get? b=some o->s'.heap.get? b=some o)->Q (.ref I) s'):Qd (Qt P w) A (pyIter (.ref S)) Q E s:=by
 obtain⟨o,es,ep,t,ho,hx,hd,hel,hf,tk,ns,hi,hp⟩:=hS
 have hT:s.TypeIs (.ref S) "set":=⟨o,ho,hx.1⟩
 have hlt:S < s.heap.objs.size:=Qf ho
 refine Xh hT PySem.F.slot_set_iter (Ra PySem.F.slot_set_iter hT m6 ?_ (PySem.F.args_set_iter_1 _))
 refine (show Qd _ _ (Builtin.Frozenset.sizeOf S >>= _) _ _ s from ?_)
 unfold Builtin.Frozenset.sizeOf
 refine Px (Px (VM ho hd hf (PK ?_)))
 unfold setDrawn setsByText
 refine Px (Px (Us ho hd hf ?_))
 dsimp only
 refine Px (Px (UT (PK (PK ?_))))
 have hps:t.place.size=es.size:=by
  simp only[SetTable.fits,Rz,beq_iff_eq] at hf
  exact hf.1
 have hlen:(es.toList.map (·.2)).length=es.size:=by rw[Py,Qw]
 have hez:es.size<=sizeLine:=by
  have h1:=hi.length
  have h2:=hp.length_eq
  lia
 have start:∀ (vs:List Value) (ns':List Int) (St:Nat->Rb->Prop),Walks P w A s.heap.objs.size [s.heap.objs.size,S] [s.heap.objs.size] es.size (fun i v=>vs[i]? = some v) St->(∀ h,SIt h s.heap.objs.size S (.int (0:Nat) 0) 0 es.size ep->h.get? S=some o->St 0 h) →
   Rh vs ns'->ns'.Perm ks->vs.length=es.size->Qd (Qt P w) A.in1 (do
    let first ← pure (RJ 0)
    let e ← setEpoch S
    let r ← newFields "set_iterator" [first,RJ 0,QS S,RJ (es.size:Int),RJ (e:Int)]
    ret r) (fun fin s'=>∃ v,fin=Fin.done (Flow.ret v)/\∃ T' r,s'.TypeIs v T'/\typeLookup (Ug T') (Sg "__next__")=pure (some r)/\Q v s') E s:=fun vs ns' St W hst hi' hp' hl'=>by
  refine Px (PK (Px (wpAny_setEpoch_of ho hd hf (Px (QL (PK ?_))))))
  have g:(s.heap.push { cls:=.type "set_iterator",data:=.fields [RJ 0,RJ 0,QS S,RJ (es.size:Int),RJ (ep:Int)].toArray }).get? s.heap.objs.size=some { cls:=.type "set_iterator",data:=.fields [RJ 0,RJ 0,QS S,RJ (es.size:Int),RJ (ep:Int)].toArray }:=PN _ rfl
  refine⟨_,rfl,"set_iterator",_,⟨_,g,rfl⟩,bD.lookup,?_⟩
  refine h s.heap.objs.size [s.heap.objs.size,S] es.size vs ns' St _ W (hst _ g (Pz _ ho)) hi' hp' hl' (fun x hx'=>?_) (PX _) rfl rfl fun b' o' e=>Pz _ e
  rcases List.mem_cons.mp hx' with rfl | hx'
  ·exact .inr (PX _)
  ·exact .inl (List.mem_singleton.mp hx')
 have hne:S≠s.heap.objs.size:=Qv hlt
 cases hB:w.params.followText "set-order" with
 | true =>
  refine Tj (decide_eq_false (show ¬ (!w.params.followText "set-order" && (!t.plain && decide (es.size > 1)))=true by rw[hB]; exact Qc)) ?_
  have pp:=nY (w.params.setOrder S ep) es
  obtain⟨ms,h1,h2⟩:=fQ (pp.symm.map (·.2)) hi
  exact start _ ms _ (zO hh hne hB hd hf) (fun h' q1 q2=>⟨⟨0,0,q1⟩,q2⟩) h1 (h2.trans hp) (by rw[Py,pp.length_eq,Qw])
 | false =>
  have hled:t.led=true:=by
   rw[tk.led,hb]
   unfold Gf
   rw[hB]
   rfl
  cases hD:(!t.plain && decide (es.size > 1)) with
  | false =>
   refine Tj (decide_eq_false (show ¬ (!w.params.followText "set-order" && (!t.plain && decide (es.size > 1)))=true by rw[hD,Bool.and_false]; exact Qc)) ?_
   have hpl:t.plain=true∨es.size<=1:=by
    rw[Bool.and_eq_false_iff] at hD
    rcases hD with q | q
    ·exact .inl (by simpa using q)
    ·exact .inr (by have:=of_decide_eq_false q; lia)
   have hris:Ris t.place:=by
    rcases hpl with q | q
    ·exact tk.ris q
    ·unfold Ris
     have hl1:t.place.toList.length<=1:=by rw[Qw]; lia
     generalize t.place.toList=l at hl1
     match l,hl1 with
     | [],_=>exact Xu
     | [x],_=>exact List.pairwise_singleton _ _
   exact start _ ns _ (yN hh hne hB hd hf hled hpl hris) (fun h' q1 q2=>⟨⟨0,q1⟩,q2⟩) hi hp hlen
  | true =>
   refine wpAny_ite_true (decide_eq_true (show (!w.params.followText "set-order" && (!t.plain && decide (es.size > 1)))=true by rw[hD,hB]; rfl)) ?_
   refine Px (sS es.size (P0 es.size) s Qs fun pl d pp=>?_)
   simp only[newTuple]
   have lp:pl.length=es.size:=by rw[pp.length_eq,Qs]
   refine Px (QL ?_ (show (dg pl).toArray.size<=sizeLine by unfold dg; rw[Qe,Py]; lia))
   have sz1:(s.heap.push { cls:=.type "tuple",data:=.seq (dg pl).toArray }).objs.size=s.heap.objs.size+1:=Q7 _ _
   have gT:(s.heap.push { cls:=.type "tuple",data:=.seq (dg pl).toArray }).get? s.heap.objs.size=some { cls:=.type "tuple",data:=.seq (dg pl).toArray }:=PN _ rfl
   have ho1:(s.heap.push { cls:=.type "tuple",data:=.seq (dg pl).toArray }).get? S=some o:=Pz _ ho
   refine Px (wpAny_setEpoch_of (o:=o) (es:=es) (t:=t) ho1 hd hf (Px (QL (PK ?_))))
   have g:((s.heap.push { cls:=.type "tuple",data:=.seq (dg pl).toArray }).push { cls:=.type "set_iterator",data:=.fields [QS s.heap.objs.size,RJ 0,QS S,RJ (es.size:Int),RJ (ep:Int)].toArray }).get? (s.heap.push { cls:=.type "tuple",data:=.seq (dg pl).toArray }).objs.size=some { cls:=.type "set_iterator",data:=.fields [QS s.heap.objs.size,RJ 0,QS S,RJ (es.size:Int),RJ (ep:Int)].toArray }:=PN _ rfl
   refine⟨_,rfl,"set_iterator",_,⟨_,g,rfl⟩,bD.lookup,?_⟩
   have hne1:S≠(s.heap.push { cls:=.type "tuple",data:=.seq (dg pl).toArray }).objs.size:=by
    rw[sz1]
    exact Qv (RB hlt)
   have hne2:s.heap.objs.size≠(s.heap.push { cls:=.type "tuple",data:=.seq (dg pl).toArray }).objs.size:=by
    rw[sz1]
    exact Qv (Te _)
   have hv:(pl.map fun j=>(es.getD j (0,.none)).2).Perm (es.toList.map (·.2)):=by
    refine (pp.map _).trans ?_
    have e:(P0 es.size).map (fun j=>(es.getD j (0,QZ)).2)=es.toList.map (·.2):=by
     apply Xr
     intro i
     have ea:es.toList[i]? = es[i]?:=QW
     rw[Qn,Qn,ea]
     by_cases hi':i < es.size
     ·rw[RM hi',Qq hi']
      simp [RT,Qq hi']
     ·have er:(P0 es.size)[i]? = none:=Rk (by rw[Qs]; lia)
      rw[er,Uj (by lia)]
      rfl
    rw[e]
   have le1:s.heap.objs.size<=(s.heap.push { cls:=.type "tuple",data:=.seq (dg pl).toArray }).objs.size:=by
    rw[sz1]
    exact Tq _
   obtain⟨ms,h1,h2⟩:=fQ hv.symm hi
   refine h _ [(s.heap.push { cls:=.type "tuple",data:=.seq (dg pl).toArray }).objs.size,S,s.heap.objs.size] es.size _ ms _ _ (yU (T:=s.heap.objs.size) hh hne1 hne2 hd hf pp) ⟨g,Pz _ ho1,_,Pz _ gT,rfl,0,rfl⟩ h1 (h2.trans hp) (by rw[Py]; exact lp) (fun x hx'=>?_) le1 rfl rfl fun b' o' e=>Pz _ (Pz _ e)
   rcases List.mem_cons.mp hx' with rfl | hx'
   ·exact .inr le1
   ·rcases List.mem_cons.mp hx' with rfl | hx'
    ·exact .inl rfl
    ·exact .inr (by rw[List.mem_singleton.mp hx']; exact PX _)
theorem vA {ks:List Int} {Q:List Value->PB->Prop} (hh:A.handled=none) (hS:km P w (Gf w) s.heap S ks) (hz:ks.length<=sizeLine)
  (h:∀ (vs:List Value) (ns:List Int) (s':PB),Rh vs ns->ns.Perm ks->s.heap.objs.size<=s'.heap.objs.size->s'.os=s.os->s'.gens=s.gens->(∀ b o,s.heap.get? b=some o->s'.heap.get? b=some o)->Q vs s'):Qd (Qt P w) A (collect (.ref S)) Q E s:=by
 obtain⟨o,es,ep,t,ho,hx,_⟩:=id hS
 have hlt:S < s.heap.objs.size:=Qf ho
 have hSl:s.heap.objs.size≠S:=R6 hlt
 unfold collect
 refine Px (wpAny_runValue (RZ PySem.F.entry_proto_collect ?_))
 rw[RD PySem.F.plain_proto_collect _]
 refine (show Qd _ A.in1 (newList [] >>= fun l=>again (.builtin "list.__iadd__" ⟨[l,.ref S],[]⟩)) _ _ s from Px (QL ?_))
 refine PK ⟨Sy PySem.F.plain_list_iadd _,RZ PySem.F.entry_list_iadd ?_⟩
 rw[RD PySem.F.plain_list_iadd _]
 generalize hN:s.heap.push { cls:=.type "list",data:=.seq ([]:List Value).toArray }=h1
 have gL:h1.get? s.heap.objs.size=some { cls:=.type "list",data:=.seq ([]:List Value).toArray }:=by rw[← hN]; exact PN _ rfl
 have k1:∀ b o,s.heap.get? b=some o->h1.get? b=some o:=fun b o e=>by rw[← hN]; exact Pz _ e
 have sz1:h1.objs.size=s.heap.objs.size+1:=by rw[← hN]; exact Q7 _ _
 have hT:Shared.TypeIs { s with heap:=h1 } (.ref S) "set":=⟨o,k1 _ _ ho,hx.1⟩
 refine (show Qd _ A.in1 (Yk (.ref s.heap.objs.size) (.ref S) (.ref s.heap.objs.size)) _ _ { s with heap:=h1 } from ?_)
 unfold Yk; refine Px (wpAny_typeOf hT ?_)
 have q1:Builtin.List.listSameRef (.ref s.heap.objs.size) (.ref S)=false:=by simp [Builtin.List.listSameRef,hSl]
 have q2:(Ug "set" == Ug "list")=false:=by decide
 have q3:(Ug "set" == Ug "tuple")=false:=by decide
 simp only[q1,q2,q3,Bool.or_false,Wb,if_false]
 refine Px (Ez (s:={ s with heap:=h1 }) hh rfl (jV (fun o e=>k1 S o e) hS) hz fun I fp n vs ns St s2 W st hi hp hl hfp hI os2 gs2 k2=>?_)
 have gL2:=k2 _ _ gL
 have hTs:s2.TypeIs (.ref S) "set":=⟨o,k2 _ _ (k1 _ _ ho),hx.1⟩
 have hLf:s.heap.objs.size ∉ fp:=fun z=>by
  rcases hfp _ z with q | q
  ·exact hSl q
  ·have q':h1.objs.size<=s.heap.objs.size:=q
   rw[sz1] at q'
   exact absurd q' (Nat.not_succ_le_self _)
 have hz':n<=sizeLine:=by
  have e1:=hi.length
  have e2:=hp.length_eq
  lia
 have key:∀ (R:Xd->PB->Prop),(∀ (s':PB) (c':Nat),s'.heap.get? s.heap.objs.size=some { cls:=.type "list",dict:=none,data:=.seq vs.toArray c',slots:=#[] }->s'.os=s.os->s'.gens=s.gens->(∀ b o,s.heap.get? b=some o->s'.heap.get? b=some o)->R (.ok (.ret (.ref s.heap.objs.size))) s') →
   ∀ (h':Rb) (c tk:Nat),St 0 h'->(∀ b o,b≠s.heap.objs.size->s2.heap.get? b=some o->h'.get? b=some o)->h'.get? s.heap.objs.size=some { cls:=.type "list",data:=.seq #[] c } →
   U0 (Qt P w) A (.builtin "list.extend.loop" ⟨[.ref s.heap.objs.size,.ref I,.ref s.heap.objs.size],[]⟩) R { s2 with heap:=h',toks:=tk }:=fun R hR h' c tk st' kp gl=>by
  refine codeAny_extend_loopS W.toS hz' s.heap.objs.size hLf _ n 0 _ #[] c rfl (QB _) st' gl (ItemsOf.nil _) fun s' acc' c' hm gL' hacc=>?_
  have eacc:acc'=vs.toArray:=by
   apply Array.ext_getElem?
   intro j
   have ev:vs.toArray[j]? = vs[j]?:=WR
   rw[ev]
   by_cases hj:j < acc'.size
   ·have e:=hacc.2 j acc'[j] (Qq hj)
    rw[Qq hj]
    exact e.symm
   ·rw[Uj (by lia),Rk (by have:=hacc.1; lia)]
  rw[eacc] at gL'
  refine hR s' c' gL' (hm.os.trans os2) (hm.gens.trans gs2) fun b o' e=>?_
  have hbl:b < s.heap.objs.size:=Qf e
  refine hm.heap b o' ?_ (kp b o' (Qv hbl) (k2 _ _ (k1 _ _ e)))
  rw[Ri,Ui]
  rintro (z | z)
  ·exact absurd z (Qv hbl)
  ·have q:h1.objs.size<=I:=hI
   rw[sz1,← z] at q
   exact absurd (Qp hbl (Nat.le_of_succ_le q)) (S8 _)
 refine Px (S6 (FZ hTs ?_))
 have fin:∀ (s':PB) (c':Nat),s'.heap.get? s.heap.objs.size=some { cls:=.type "list",dict:=none,data:=.seq vs.toArray c',slots:=#[] }->s'.os=s.os->s'.gens=s.gens->(∀ b o,s.heap.get? b=some o->s'.heap.get? b=some o) →
   Qd (Qt P w) A (load s.heap.objs.size >>= fun o=>match o.data with | .seq xs _=>pure xs.toList | _=>unsupported "internal:collect") Q E s':=fun s' c' g e1 e2 e3=>Px (wpAny_load g (PK (h vs ns s' hi hp (U3 (Qf g)) e1 e2 e3)))
 refine X6 (fun _=>?_) (fun _=>PK ⟨Sy PySem.F.plain_extend_loop _,key _ (fun s' c' g e1 e2 e3=>fin s' c' g e1 e2 e3) s2.heap _ s2.toks st (fun b o _ e=>e) gL2⟩)
 refine Px (Uv (Px (show Qd _ _ (XC s.heap.objs.size (·.push .none) >>= fun _=>XC s.heap.objs.size (·.pop)) _ _ _ from ?_)))
 refine Px (Va gL2 rfl ?_)
 have g3:=Q8 (RN (·.push QZ)) gL2 rfl
 refine Va (hz:=by seq_fits) g3 rfl ?_
 have g4:=Q8 (RN (·.pop)) g3 rfl
 have oth:∀ b o',b≠s.heap.objs.size->s2.heap.get? b=some o'->((s2.heap.update s.heap.objs.size (RN (·.push QZ))).update s.heap.objs.size (RN (·.pop))).get? b=some o':=fun b o' hb e=>by
  rw[Q0 _ _ (TF hb),Q0 _ _ (TF hb)]
  exact e
 exact PK ⟨Sy PySem.F.plain_extend_loop _,key _ (fun s' c' g e1 e2 e3=>fin s' c' g e1 e2 e3) _ _ s2.toks (W.frame 0 _ _ st fun b hb o' e=>oth b o' (fun z=>hLf (by rw[← z]; exact hb)) e) oth g4⟩
end
end L2
namespace L2
open PySem PySem.Spec PyProof.Rows
section
variable {P:Qx} {w:QG} {A:QK} {E:Value->PB->Prop} {s:PB} {S:Addr}
theorem ym {ks:List Int} {Q:Value->PB->Prop} (hh:A.handled=none) (hS:km P w (Gf w) s.heap S ks) (h64:ks.length < 64)
  (h:∀ (l:Addr) (vs:List Value) (ns:List Int) (c:Nat) (s':PB),Rh vs ns->ns.Perm ks->ns.Pairwise (·<=·)->s'.heap.get? l=some { cls:=.type "list",data:=.seq vs.toArray c }->s.heap.objs.size<=l->s'.os=s.os->s'.gens=s.gens →
   (∀ b o,s.heap.get? b=some o->s'.heap.get? b=some o)->Q (.ref l) s'):Qd (Qt P w) A (call (.builtin "sorted") [.ref S]) Q E s:=by
 refine Calls.call_function_entry kind_sorted plain_sorted entry_sorted (args_sorted1 _) ?_
 unfold Ss.«sorted»; refine Px (m:=checkCount "sorted" 1 1 _) (PK ?_)
 refine Px (vA hh hS (U3 (Qp h64 (by decide))) fun vs ns s1 hi hp hsz os1 gs1 k1=>?_)
 have hl:vs.length < 64:=by
  have e1:=hi.length
  have e2:=hp.length_eq
  lia
 refine Px (wpAny_newList ?_)
 have g1:(s1.heap.push (Sw "list" vs.toArray 0)).get? s1.heap.objs.size=some (Sw "list" vs.toArray 0):=PN _ rfl
 refine Px (S6 (Ra slot_list_sort ⟨_,g1,rfl⟩ entry_list_sort (list_sort_tree g1 hi hl fun out ns' a1 a2 a3=>⟨_,rfl,?_⟩) (args_list_sort _)))
 obtain⟨c,hc⟩:=sortedHeap_at (out:=out) g1
 refine PK ⟨_,rfl,h s1.heap.objs.size out.toList ns' c _ a1 (a2.trans hp) a3 ?_ hsz os1 gs1 fun b o e=>?_⟩
 ·exact hc
 ·have e1:=k1 b o e
  have lt:=Qf e1
  rw[sortedHeap_old (Qv lt) (by rw[Q7]; exact RB lt)]
  exact Pz _ e1
end
end L2
namespace L2
open PySem PySem.Spec PyProof.Rows
def ddI (ns:List Int):List Int:=firstMet (fun i=>ns.getD i 0) ns.length
theorem Inv.Kc {X:Cx} {pins:List (Addr × Tv)} {σ:St} {H:Hp} {s s':PB} {l:Addr} {ys:List V} {its:List Value} {c:Nat} (I:Inv X pins σ H s) (ho:s'.os=s.os) (hg:s'.gens=s.gens) (k:∀ b u,s.heap.get? b=some u->s'.heap.get? b=some u)
  (hl:s.heap.objs.size<=l) (hv:Vals ys its) (hz:ys.length<=sizeLine) (g:s'.heap.get? l=some { cls:=.type "list",data:=.seq its.toArray c }):Inv X pins σ (upd H l (.lst ys)) s':=by
 have J:=I.laid (t':=s.toks) (o:=.lst ys) k hl ⟨hz,its,c,hv,g⟩
 exact⟨J.ok,ho.trans I.os,by rw[hg]; exact I.bare,J.base,J.loc,J.cell,J.free,J.freeC,J.pin,J.hok,J.len⟩
def tSS (K:Qu) (te:TA):TE:=fun σ H Q=>te σ H fun xs H1=>∃ (a:Addr) (ns:List Int),xs=[.ref a]/\SqL K H1 a (ns.map V.int)/\ns.length<=4000/\(ddI ns).length < 64/\∀ ms:List Int,ms.Perm (ddI ns)->ms.Pairwise (·<=·)->∀ l,H1 l=none->Q (.ref l) (upd H1 l (.lst (ms.map V.int)))
theorem tV {X:Cx} {e:Expr} {te:TA} {p1 p2 q1 q2:Vo} (hc:X.calm=true) (hg1:Gl X "sorted") (hm1:X.mg "sorted" = none) (hg2:Gl X "set") (hm2:X.mg "set" = none) (ha:PA X [e] te)
  (hb1:Q5 "sorted" = some (.builtin "sorted"):=by decide+kernel) (hb2:Q5 "set" = some (.type "set"):=by decide+kernel)
  (he1:Qz [.Call (.Name "set" p2) [e] [] q2] X.env=(false,Tc (.Call (.Name "set" p2) [e] [] q2) X.env)::Qz [] X.env:=by rfl) (hp1:(Uq q1 (Qz [] X.env)).any (·.1)=false:=by rfl)
  (he2:Qz [e] X.env=(false,Tc e X.env)::Qz [] X.env:=by rfl) (hp2:(Uq q2 (Qz [] X.env)).any (·.1)=false:=by rfl) :
  PE X (.Call (.Name "sorted" p1) [.Call (.Name "set" p2) [e] [] q2] [] q1) (tSS X.K te):=by
 intro pins s σ H Q I h
 refine Sv (fU I hg1 hm1 hb1 ?_ (by decide) (by decide))
 refine XN ?_ he1 hp1
 rw[he1]
 refine (show Qd _ _ (Ye ((false,Tc (.Call (.Name "set" p2) [e] [] q2) X.env)::Uq q1 (Qz [] X.env))) _ _ s from Xg ?_)
 refine Sv (fU I hg2 hm2 hb2 ?_ (by decide) (by decide))
 refine Q9 (thn (ha q2 pins s σ H _ I h) fun us s1 ⟨vs,H1,I1,r1,q⟩=>?_) he2 hp2
 obtain⟨a,ns,rfl,hq,hl,h64,hQ⟩:=q
 obtain⟨u,rfl,ru⟩:=vals1 r1
 cases ru
 obtain⟨its,rv,pl,_⟩:=I1.list hq
 have hi:Rh its ns:=intsAre_of rv
 have hsz:its.toArray.size=ns.length:=by rw[Qe]; exact hi.length
 refine vL (I1.ok.hd hc) pl.isList hi (by rw[hsz]; exact Uh (XQ hl) (by decide)) fun h' tk hS hk=>?_
 rw[hsz] at hS
 have I2:Inv X pins σ H1 { s1 with heap:=h',toks:=tk }:=I1.kept (t':=tk) fun b o e=>hk b o (Qf e) e
 refine (show Qd _ _ (Ye []) _ _ _ from Xx ?_)
 refine ym (I1.ok.hd hc) hS h64 fun l vs ms c s3 hi3 hp3 hw3 g3 hl3 os3 gs3 k3=>?_
 have hml:(ms.map V.int).length<=sizeLine:=by
  rw[Py,hp3.length_eq]
  exact U3 (Qp h64 (by decide))
 exact⟨.ref l,_,I2.Kc os3 gs3 k3 hl3 (jM hi3) hml g3,rfl,hQ ms hp3 hw3 l (I2.hok.fresh hl3)⟩
end L2
namespace L2
open PySem PySem.Spec PyProof.Rows
section
variable {X:Cx} {pins:List (Addr × Tv)} {s:PB} {σ:St} {H:Hp}
end
end L2
namespace L2
open PySem PySem.Spec PyProof.Rows
section
variable {X:Cx} {k:Nat}
end
end L2
namespace L2
open PySem PySem.Spec PyProof.Rows
section
variable {X:Cx} {k:Nat}
end
end L2
namespace L2
open PySem PySem.Spec PyProof.Rows
def mxD (d:Int):List Int->Int
 | []=>d
 | a::r=>r.foldl max a
theorem eV:∀ (r:List Int) (a:Int),a<=r.foldl max a/\∀ b∈r,b<=r.foldl max a
 | [],a=>⟨RC _,by simp⟩
 | c::r,a=>by
  obtain⟨h1,h2⟩:=eV r (max a c)
  rw[Rm]
  refine⟨by lia,fun b hb=>?_⟩
  rcases List.mem_cons.mp hb with rfl | hb
  ·lia
  ·exact h2 b hb
theorem qd {n:Int}:∀ {l:List Value} {ns:List Int} {j:Nat},Rh l ns->ns[j]? = some n->∃ t,l[j]? = some (.int n t)
 | _,_,j,.nil,h=>by simp at h
 | _,_,0,.cons _ _ _,h=>by
  cases (show some _=some n from h)
  exact⟨_,rfl⟩
 | _,_,j+1,.cons _ _ r,h=>by
  obtain⟨t,e⟩:=qd (j:=j) r (by simpa using h)
  exact⟨t,by simpa using e⟩
def dkw (dk:Option (Int × Tok)):List (Rx × Value):=dk.toList.map fun d=>(("default" : Rx),TY d.1 d.2)
section
variable {prog:Qx} {w:QG} {A:QK} {R:Xd->PB->Prop} {E:Value->PB->Prop} {s:PB}
theorem Dl {it l S:Addr} {items:Array Value} {ns:List Int} (hh:A.handled=none) (hi:Rh items.toList ns) (hne:l≠it) (hS1:S≠it) (hS2:S≠l) (kw:List (Rx × Value)) :
  ∀ (k j:Nat) (s:PB) (b:Int) (t:Tok) (c:Nat),ns.length - j=k->j<=ns.length->s.heap.IsListIter it l j->s.heap.IsList l items →
   s.heap.get? S=some { cls:=.type "list",dict:=none,data:=.seq #[.int b t,.int b t] c,slots:=#[] } →
   (∀ t' h' tk,(∀ a o,a≠it->a≠S->s.heap.get? a=some o->h'.get? a=some o)->R (.ok (.ret (.int ((ns.drop j).foldl max b) t'))) { s with heap:=h',toks:=tk }) →
   U0 (Qt prog w) A (.builtin "max.loop" ⟨[.ref it,.none,.ref S],kw⟩) R s:=by
 have W:=Walks.list (prog:=prog) (w:=w) (A:=A.in1) hh it l hne items
 have hname:(toString "max"++toString ".loop" : String) = "max.loop":=by decide
 have hsz:items.size=ns.length:=by rw[← Qw]; exact hi.length
 intro k
 induction k with
 | zero =>
  intro j s b t c hk hj h1 h2 hS hR
  refine RZ XS ?_; rw[RD Ub _]
  show Qd _ A.in1 (Wo (.ref S) >>= _) _ _ s; refine Px (Rf hS rfl ?_)
  have ej:j=items.size:=by lia
  show Qd _ A.in1 (tryCatch (Th (.ref it)) _ >>= _) _ _ s; refine Px (V3 (W.done s _ _ (by rw[← ej]; exact⟨h1,h2⟩) fun h' tk hm=>?_))
  have hS':=hm S _ (by simpa using hS1) hS
  show Qd _ A.in1 (XC S (fun _=>#[]) >>= _) _ _ _; refine Px (Va hS' rfl (Px (Uc (PK ?_))))
  rw[Vn (by lia)] at hR
  exact hR t _ tk fun a o ha hb e=>(Q0 _ _ (TF hb)).trans (hm a o (by simpa using ha) e)
 | succ k ih =>
  intro j s b t c hk hj h1 h2 hS hR
  refine RZ XS ?_; rw[RD Ub _]
  show Qd _ A.in1 (Wo (.ref S) >>= _) _ _ s; refine Px (Rf hS rfl ?_)
  have hlt:j < ns.length:=by lia
  obtain⟨u,hu⟩:=qd hi (PJ hlt)
  have ed:ns.drop j=ns[j]::ns.drop (j+1):=Ti hlt
  show Qd _ A.in1 (tryCatch (Th (.ref it)) _ >>= _) _ _ s; refine Px (V3 (W.item j s _ _ (by lia) ⟨h1,h2⟩ fun v h' tk hP st hm=>?_))
  obtain⟨g1,g2⟩:=st
  have ev:v = .int ns[j] u:=by
   have e:items[j]? = some v:=hP
   rw[← QW,hu] at e
   exact (QJ e).symm
  subst ev
  have hS':=hm S _ (by simpa using hS1) hS
  show Qd _ A.in1 (tryCatch (holding [TY ns[j] u,TY ns[j] u] (richCompare .Gt (.int ns[j] u) (.int b t) >>= _)) _ >>= _) _ _ _
  refine Px (V3 (S6 (Px ((CmpOf.ints_gt (P:=fun i v=>∃ t,v = .int (if i=0 then ns[j] else b) t) (fun i=>if i=0 then ns[j] else b) (fun _ _ h=>h)) 0 1 _ _ _ _ _ ⟨u,rfl⟩ ⟨t,rfl⟩ ?_))))
  refine Px (S6 (Tp (Px (Uc (PK ?_)))))
  show Qd _ A.in1 (if decide (ns[j] > b)=true then _ else _) _ _ _
  by_cases hb:ns[j] > b
  ·rw[if_pos (decide_eq_true hb)]
   refine Px (Va hS' rfl (Px (Uc ?_)))
   rw[hname]
   refine PK ⟨Sy Ub _,ih (j+1) _ ns[j] u _ (by lia) hlt ?_ ?_ (Q8 _ hS' rfl) fun t' h2 tk2 k2=>?_⟩
   ·exact g1.at fun o e=>(Q0 _ _ hS1).trans e
   ·exact g2.at fun o e=>(Q0 _ _ hS2).trans e
   ·have q:=hR t' h2 tk2 fun a o ha hb e=>k2 a o ha hb ((Q0 _ _ (TF hb)).trans (hm a o (by simpa using ha) e))
    rw[ed,Rm,show max b ns[j]=ns[j] by lia] at q
    exact q
  ·rw[if_neg (by simpa using hb)]
   refine Px (Uc ?_)
   rw[hname]
   refine PK ⟨Sy Ub _,ih (j+1) _ b t c (by lia) hlt g1 g2 hS' fun t' h2 tk2 k2=>?_⟩
   have q:=hR t' h2 tk2 fun a o ha hb e=>k2 a o ha hb (hm a o (by simpa using ha) e)
   rw[ed,Rm,show max b ns[j]=b by lia] at q
   exact q
theorem yE {it l S:Addr} {items:Array Value} {ns:List Int} {c:Nat} (hh:A.handled=none) (hi:Rh items.toList ns) (hne:l≠it) (hS1:S≠it) (hS2:S≠l) (dk:Option (Int × Tok)) (hd:ns=[]->dk≠none)
  (h1:s.heap.IsListIter it l 0) (h2:s.heap.IsList l items) (hS:s.heap.get? S=some { cls:=.type "list",dict:=none,data:=.seq #[] c,slots:=#[] })
  (hR:∀ t' h' tk,(∀ a o,a≠it->a≠S->s.heap.get? a=some o->h'.get? a=some o)->R (.ok (.ret (.int (mxD ((dk.map (·.1)).getD 0) ns) t'))) { s with heap:=h',toks:=tk }) :
  U0 (Qt prog w) A (.builtin "max.loop" ⟨[.ref it,.none,.ref S],dkw dk⟩) R s:=by
 have W:=Walks.list (prog:=prog) (w:=w) (A:=A.in1) hh it l hne items
 have hname:(toString "max"++toString ".loop" : String) = "max.loop":=by decide
 have hsz:items.size=ns.length:=by rw[← Qw]; exact hi.length
 refine RZ XS ?_; rw[RD Ub _]
 show Qd _ A.in1 (Wo (.ref S) >>= _) _ _ s; refine Px (Rf hS rfl ?_)
 show Qd _ A.in1 (tryCatch (Th (.ref it)) _ >>= _) _ _ s
 cases ns with
 | nil =>
  have e0:items.size=0:=hsz
  refine Px (V3 (W.done s _ _ (by rw[e0]; exact⟨h1,h2⟩) fun h' tk hm=>?_))
  cases dk with
  | none=>exact absurd rfl (hd rfl)
  | some d =>
   refine Px (Uv ?_)
   exact PK (hR d.2 h' tk fun a o ha hb e=>hm a o (by simpa using ha) e)
 | cons n r =>
  obtain⟨u,hu⟩:=qd (n:=n) (j:=0) hi rfl
  refine Px (V3 (W.item 0 s _ _ (by rw[hsz]; exact Nat.succ_pos _) ⟨h1,h2⟩ fun v h' tk hP st hm=>?_))
  obtain⟨g1,g2⟩:=st
  have ev:v = .int n u:=by
   have e:items[0]? = some v:=hP
   rw[← QW,hu] at e
   exact (QJ e).symm
  subst ev
  have hS':=hm S _ (by simpa using hS1) hS
  show Qd _ A.in1 (XC S (fun _=>#[TY n u,TY n u]) >>= _) _ _ _
  refine Px (Va hS' rfl ?_)
  rw[hname]
  refine PK ⟨Sy Ub _,Dl hh hi hne hS1 hS2 _ _ 1 _ n u _ rfl (XQ (QB _)) ?_ ?_ (Q8 _ hS' rfl) fun t' h2 tk2 k2=>?_⟩
  ·exact g1.at fun o e=>(Q0 _ _ hS1).trans e
  ·exact g2.at fun o e=>(Q0 _ _ hS2).trans e
  ·exact hR t' h2 tk2 fun a o ha hb e=>k2 a o ha hb ((Q0 _ _ (TF hb)).trans (hm a o (by simpa using ha) e))
theorem zu (a v:Value):VF "max" ⟨[a],[("default",v)]⟩:=by unfold VF; kernel_rfl
theorem Ce (v:Value):V1 "max" ["key","default"] 0 ⟨[],[("default",v)]⟩=pure [none,some v]:=by kernel_rfl
theorem G6 {l:Addr} {items:Array Value} {ns:List Int} {Q:Value->PB->Prop} (hh:A.handled=none) (hl:s.heap.IsList l items) (hi:Rh items.toList ns) (dk:Option (Int × Tok)) (hd:ns=[]->dk≠none)
  (h:∀ t h' tk,(∀ a o,s.heap.get? a=some o->h'.get? a=some o)->Q (.int (mxD ((dk.map (·.1)).getD 0) ns) t) { s with heap:=h',toks:=tk }) :
  Qd (Qt prog w) A (call (.builtin "max") [.ref l] (dkw dk)) Q E s:=by
 have ha:VF "max" ⟨[.ref l],dkw dk⟩:=by
  cases dk with
  | none=>exact F.args_max1 _
  | some d=>exact zu _ _
 have hb:V1 "max" ["key","default"] 0 ⟨[],dkw dk⟩=pure [none,dk.map fun d=>.int d.1 d.2]:=by
  cases dk with
  | none=>rfl
  | some d=>exact Ce _
 have hname:(toString "max"++toString ".loop" : String) = "max.loop":=by decide
 refine wpAny_call (codeAny_call_builtin F.plain_max F.entry_max ?_)
 have main:Qd (Qt prog w) A.in1 (Ss.«max» ⟨[.ref l],dkw dk⟩) (fun fin s'=>match fin with
   | .done f=>(match (Except.ok f:Xd) with | .ok (.ret v)=>Q v s' | .ok _=>False | .error e=>E e s')
   | .again c'=>c'.quiet=true/\U0 (Qt prog w) A c' (fun r s'=>match r with | .ok (.ret v)=>Q v s' | .ok _=>False | .error e=>E e s') s') E s:=by
  show Qd _ A.in1 (V1 "max" ["key","default"] 0 ⟨[],dkw dk⟩ >>= _) _ _ s
  refine Px (S5 hb (Px (PK ?_)))
  refine Px (Ut hl (Px (QL ?_)))
  have lt:l < s.heap.objs.size:=by obtain⟨o,e,_⟩:=hl; exact Qf e
  have hs1:(s.heap.push { cls:=.type "list_iterator",data:=.fields #[.ref l,.int 0 0] }).objs.size=s.heap.objs.size+1:=Q7 ..
  rw[hname]
  have ek:(dk.map fun d=>TY d.1 d.2).toList.map (fun d=>(("default" : Rx),d))=dkw dk:=by cases dk <;> rfl
  refine PK ⟨Sy Ub _,?_⟩
  show U0 _ A (.builtin "max.loop" ⟨[.ref s.heap.objs.size,.none,_],(dk.map fun d=>TY d.1 d.2).toList.map (fun d=>(("default" : Rx),d))⟩) _ _
  rw[ek]
  refine yE hh hi (Qv lt) (by rw[hs1]; exact R6 (Te _)) (by rw[hs1]; exact R6 (RB lt)) dk hd
   ⟨_,Pz _ (PN _ rfl),rfl,rfl⟩ ((hl.push _).push _) (PN _ rfl) fun t h' tk k=>?_
  exact h t h' tk fun a o e=>k a o (Qv (Qf e)) (by rw[hs1]; exact Qv (RB (Qf e))) (Pz _ (Pz _ e))
 simp only[XM,F.kind_max]
 cases hsig:Manifest.signature? "max" with
 | none=>exact PK main
 | some sig =>
  have ha':Bind.checkArgs "max" sig ⟨[.ref l],dkw dk⟩=pure ():=by simpa only [VF,hsig] using ha
  simp only[ha']
  exact PK main
end
section
variable {X:Cx}
inductive zY (K:Qu) (xs:List V) (H:Hp) (Q:VK):Prop where
 | mk (p:Addr) (ns:List Int) (z0:xs=[.ref p]) (z1:SqL K H p (ns.map V.int)) (z2:ns.length < 64) (z3:∀ ms:List Int,ms.Perm ns->ms.Pairwise (·<=·)->∀ l,H l=none->Q (.ref l) (upd H l (.lst (ms.map V.int)))):zY K xs H Q
def wI (K:Qu):List V->Hp->VK->Prop:=fun xs H Q=>zY K xs H Q
theorem jZ:iy X (.builtin "sorted") (wI X.K):=by
 intro pins s σ H xs us Q I r h
 obtain⟨p,ns,rfl,hq,h64,q⟩:=h
 obtain⟨u,rfl,ru⟩:=vals1 r
 cases ru
 obtain⟨its,rv,pl,hz⟩:=I.list hq
 have hi:Rh its ns:=intsAre_of rv
 refine sorted_ints pl.isList hi (by have:=hi.length; lia) fun out ns' a1 a2 a3=>?_
 obtain⟨e,he⟩:=sortedAll_at s.heap its out
 have hml:(ns'.map V.int).length<=sizeLine:=by
  rw[Py,a2.length_eq]
  exact U3 (Qp h64 (by decide))
 exact⟨.ref _,_,I.Kc rfl rfl (fun _ _=>sortedAll_old) (Tq _) (jM a1) hml he,rfl,q ns' a2 a3 _ (I.hok.fresh (Tq _))⟩
inductive Gk (K:Qu) (xs:List V) (H:Hp) (Q:VK):Prop where
 | mk (p:Addr) (ns:List Int) (z0:xs=[.ref p]) (z1:SqL K H p (ns.map V.int)) (z2:ns≠[]) (z3:Q (.int (mxD 0 ns)) H):Gk K xs H Q
def Ge (K:Qu):List V->Hp->VK->Prop:=fun xs H Q=>Gk K xs H Q
theorem nW (hc:X.calm=true):iy X (.builtin "max") (Ge X.K):=by
 intro pins s σ H xs us Q I r h
 obtain⟨p,ns,rfl,hq,hne,q⟩:=h
 obtain⟨u,rfl,ru⟩:=vals1 r
 cases ru
 obtain⟨its,rv,pl,hz⟩:=I.list hq
 exact G6 (I.ok.hd hc) pl.isList (show Rh its.toArray.toList ns from intsAre_of rv) none (fun e=>absurd e hne) fun t h' tk k=>⟨.int _,H,I.kept (t':=tk) k,⟨_,rfl⟩,q⟩
def NZ (K:Qu) (d:Int) (te:TA):TE:=fun σ H Q=>te σ H fun xs H1=>∃ (p:Addr) (ns:List Int),xs=[.ref p]/\SqL K H1 p (ns.map V.int)/\Q (.int (mxD d ns)) H1
theorem IK {e:Expr} {te:TA} {d:Int} {j} {p pos kp cp:Vo} (hc:X.calm=true) (hg:Gl X "max") (hm:X.mg "max" = none) (ha:PA X [e] te)
  (hb:Q5 "max" = some (.builtin "max"):=by decide+kernel)
  (he:Uq pos (Qz [e] X.env)=(false,Tc e X.env)::Uq pos (Qz [] X.env):=by rfl) (hp:(Uq pos (Qz [e] X.env)).any (·.1)=false:=by rfl) :
  PE X (.Call (.Name "max" p) [e] [⟨some "default",.Constant (.int d) j cp,kp⟩] pos) (NZ X.K d te):=by
 intro pins s σ H Q I h
 refine Sv (fU I hg hm hb ?_ (by decide) (by decide))
 refine callWith_kw (thn (ha pos pins s σ H _ I h) fun us s1 ⟨vs,H1,I1,r1,q⟩=>?_) he hp
 obtain⟨a,ns,rfl,hq,q⟩:=q
 obtain⟨u,rfl,ru⟩:=vals1 r1
 cases ru
 refine kws_cons (wpAny_Constant_int (kws_nil ?_))
 have I2:Inv X pins σ H1 { s1 with toks:=s1.toks+1 }:=I1.tok _
 obtain⟨its,rv,pl,hz⟩:=I2.list hq
 exact G6 (I.ok.hd hc) pl.isList (show Rh its.toArray.toList ns from intsAre_of rv) (some (d,_)) (fun _ z=>nomatch z) fun t h' tk k=>⟨.int _,H1,I2.kept (t':=tk) k,⟨_,rfl⟩,q⟩
end
end L2
namespace L2
open PySem PySem.Spec PyProof.Rows
theorem Bj:Manifest.owners.lookup (String.ofList ['d','e','s','r','e','v','e','r'].reverse)=some Manifest.sig_reversed:=by kernel_rfl
theorem dC:Slot "reversed" "__next__" "reversed.__next__" :=
 .of (owner:="reversed") (n:="__next__") (by rw[Vb,Tf]; kernel_rfl) (by decide+kernel) (by decide+kernel) (by decide+kernel) (by first | exact .inl (by decide+kernel) | exact .inr (by decide+kernel)) (by rw[TV]; kernel_rfl)
theorem pJ:Slot "reversed" "__init__" "object.__init__" :=
 .of (owner:="object") (n:="__init__") (by rw[Vb,Tf]; kernel_rfl) (by decide+kernel) (by decide+kernel) (by decide+kernel) (by first | exact .inl (by decide+kernel) | exact .inr (by decide+kernel)) (by rw[TV]; kernel_rfl)
theorem iW:entryFor table "reversed.__next__" = some Ss.«reversed.__next__»:=entryFor_of_tree (by kernel_rfl)
theorem jx (a:Value):VF "reversed.__next__" ⟨[a],[]⟩:=by
 unfold VF
 rw[Wi (id:="reversed.__next__") (n:=['_','_','t','x','e','n','_','_']) (o:=['d','e','s','r','e','v','e','r']) (by kernel_rfl) Bj]
 kernel_rfl
theorem jB:Slot "reversed" "__iter__" "reversed.__iter__" :=
 .of (owner:="reversed") (n:="__iter__") (by rw[Vb,Tf]; kernel_rfl) (by decide+kernel) (by decide+kernel) (by decide+kernel) (by first | exact .inl (by decide+kernel) | exact .inr (by decide+kernel)) (by rw[TV]; kernel_rfl)
theorem oG:entryFor table "reversed.__iter__" = some Ss.«dict_keyiterator.__iter__»:=entryFor_alias (id':="dict_keyiterator.__iter__") (by kernel_rfl) rfl (by decide+kernel) (by kernel_rfl)
theorem qN (a:Value):VF "reversed.__iter__" ⟨[a],[]⟩:=by
 unfold VF
 rw[Wi (id:="reversed.__iter__") (n:=['_','_','r','e','t','i','_','_']) (o:=['d','e','s','r','e','v','e','r']) (by kernel_rfl) Bj]
 kernel_rfl
theorem yl:TypeCalled "reversed" "reversed.__new__" "object.__init__" :=
 ⟨by decide+kernel,by decide+kernel,⟨_,_,F.mro_reversed⟩,F.made_reversed,by decide+kernel,by rw[TV]; kernel_rfl,pJ⟩
theorem uc:typeLookup (.type "tuple") "__reversed__" = pure none:=by rw[Vb,Tf]; kernel_rfl
theorem qY:isSubtype (.type "tuple") (.type "dict")=pure false:=by rw[TV]; kernel_rfl
def RIt (h:Rb) (I t:Addr) (i:Int):Prop:=h.get? I=some { cls:=.type "reversed",dict:=none,data:=.fields #[.ref t,.int i 0],slots:=#[] }
theorem Fz (a:Value):Yi "reversed" ⟨[.type "reversed",a],[]⟩=pure (.type "reversed",[a]):=by
 unfold Yi
 simp only[isType,F.sub_reversed_self,pure_bind,Bool.not_true,Wb,if_false]
theorem Ga (t:Addr) (items:Array Value) (hf:(items.size:Int) < 2 ^ 63) :
  Meets (Ss.«reversed.__new__» ⟨[.type "reversed",.ref t],[]⟩) (fun _ R s=>IsTup s.heap t items/\R (.ok (.ret (.ref s.heap.objs.size))) { s with heap:=s.heap.push { cls:=.type "reversed",data:=.fields #[.ref t,.int ((items.size:Int) - 1) 0] },toks:=s.toks+1+1 }) :=
 .of_wp fun prog w A R s h=>by
  obtain⟨ht,h⟩:=h
  unfold Ss.«reversed.__new__»
  refine Px (S5 (Fz _) ?_)
  try dsimp only
  refine Px (S5 (a:=()) (by first | rfl | kernel_rfl) (Px (S5 (a:=()) (by first | rfl | kernel_rfl) ?_)))
  try dsimp only
  refine Px (VD ht.typeIs uc ?_)
  try dsimp only
  refine (show Qd _ _ ((isInstance (.ref t) (.type "dict") >>= _) >>= _) _ _ s from Px (Px (TQ ht.typeIs qY ?_)))
  rw[if_neg Qc]
  refine Px (VD ht.typeIs slot_tuple_getitem.lookup ?_)
  dsimp only
  rw[if_pos (by decide+kernel)]
  refine PK ?_
  rw[if_neg (by simp)]
  refine Px (len_tuple ht hf ?_)
  refine Px (S5 (a:=some ((items.size:Nat):Int)) rfl ?_)
  dsimp only
  refine Px ?_
  refine (show Qd _ _ (newObj (.type "reversed") (.fields #[.ref t,RJ ((items.size:Int) - 1)])) _ _ _ from QL ?_)
  exact PK ⟨_,rfl,h⟩
section
variable {prog:Qx} {w:QG} {A:QK} {E:Value->PB->Prop} {s:PB}
theorem BZ {t:Addr} {items:Array Value} {Q:Value->PB->Prop} (ht:IsTup s.heap t items) (hf:(items.size:Int) < 2 ^ 63)
  (h:Q (.ref s.heap.objs.size) { s with heap:=s.heap.push { cls:=.type "reversed",data:=.fields #[.ref t,.int ((items.size:Int) - 1) 0] },toks:=s.toks+1+1 }):Qd (Qt prog w) A (call (.type "reversed") [.ref t]) Q E s:=by
 refine Xm yl (by decide) (F.typeCall_reversed_1 _) (F.newCall_reversed_1 _) (fun obj=>F.args_object_init_2 obj _) F.entry_reversed_new (Ga t items hf) ⟨ht,?_⟩
 exact⟨⟨_,PN _ rfl,rfl⟩,h⟩
theorem Em {it t:Addr} {i:Nat} {items:Array Value} {x:Value} {Q:Option Value->PB->Prop} (hit:RIt s.heap it t (i:Int)) (ht:IsTup s.heap t items) (hi:(i:Int) < 2 ^ 63) (hx:items[i]? = some x)
  (hQ:∀ h',RIt h' it t ((i:Int) - 1)->Sq it s.heap h'->Q (some x) { s with heap:=h',toks:=s.toks+1 }):Qd (Qt prog w) A (Th (.ref it)) Q E s:=by
 have hT:s.TypeIs (.ref it) "reversed":=⟨_,hit,rfl⟩
 unfold Th
 refine Px (S7 (Q3 (name:=Sg "__next__") hT dC (Ra dC hT iW ?_ (jx _))))
 unfold Ss.«reversed.__next__»
 refine Px (S5 (a:=(QS it,[])) rfl ?_)
 dsimp only
 refine Px (QX hit rfl (x:=.ref t) rfl (Px (QX hit rfl (x:=.int (i:Int) 0) rfl ?_)))
 dsimp only
 rw[if_neg (by lia)]
 refine Px (VD ht.typeIs slot_tuple_getitem.lookup ?_)
 rw[if_neg (by simp)]
 refine Px (wpAny_mkInt ?_)
 have hsz:i < items.size:=(Array.getElem?_eq_some_iff.mp hx).1
 have hk:XF (i:Int) items.size=some i:=by
  have e0:¬ ((i:Int) < 0):=by lia
  unfold XF
  simp only[if_neg e0]
  simp [hsz]
 refine Px (S7 (getItem_tuple (s:={ s with toks:=s.toks+1 }) (show IsTup s.heap t items from ht) (by lia) hi hk hx ?_))
 dsimp only
 refine Px (QX (s:={ s with toks:=s.toks+1 }) hit rfl (x:=.int (i:Int) 0) rfl ?_)
 dsimp only
 refine Px (Sd (s:={ s with toks:=s.toks+1 }) hit rfl (by simp) ?_)
 refine PK ⟨x,rfl,PK (hQ _ ?_ (Ro ..))⟩
 exact Q8 (Vt (·.setIfInBounds 1 (RJ ((i:Int) - 1)))) hit rfl
theorem JG {it t:Addr} {Q:Option Value->PB->Prop} (hh:A.handled=none) (hit:RIt s.heap it t (-1)) (hQ:∀ h',Heap.ExtBut it s.heap h'->Q none { s with heap:=h' }):Qd (Qt prog w) A (Th (.ref it)) Q E s:=by
 have hT:s.TypeIs (.ref it) "reversed":=⟨_,hit,rfl⟩
 unfold Th
 refine Px (S7 (Q3 (name:=Sg "__next__") hT dC (Ra dC hT iW ?_ (jx _))))
 unfold Ss.«reversed.__next__»
 refine Px (S5 (a:=(QS it,[])) rfl ?_)
 dsimp only
 refine Px (QX hit rfl (x:=.ref t) rfl (Px (QX hit rfl (x:=.int (-1) 0) rfl ?_)))
 dsimp only
 rw[if_pos (by decide)]
 refine Px (Uv ?_)
 refine Px ?_
 refine (show Qd _ _ (setField (.ref it) 1 (RJ (-1)) >>= _) _ _ s from Px (Sd hit rfl (by simp) ?_))
 have g1:=Q8 (Vt (·.setIfInBounds 1 (RJ (-1)))) hit rfl
 refine Sd g1 rfl (by simp) ?_
 refine Px ?_
 refine (show Qd _ _ (XJ (.type "StopIteration") [] >>= _) _ _ _ from Px ?_)
 simp only[XJ,newTuple]
 refine Px (QL ?_ (by size_fits))
 refine Px (m:=TX _ _) (S5 (a:=QZ) (by first | rfl | (simp only[TX]; rfl)) (QL ?_ (by size_fits)))
 simp only[raiseNew]
 refine Px (W5 ?_)
 first | rw[show A.in1.handled=none from hh] | rw[hh]
 refine Px (PK (X3 ?_))
 refine Px (TQ (T:="StopIteration") (b:=true) ⟨_,PN _ rfl,rfl⟩ V5 (PK ?_))
 exact hQ _ ((((Ro ..).trans (Ro ..)).extBut.push _).push _)
theorem xQ {it t:Addr} {i:Int} {Q:Value->PB->Prop} (hI:RIt s.heap it t i) (h:Q (.ref it) s):Qd (Qt prog w) A (pyIter (.ref it)) Q E s:=by
 have hT:s.TypeIs (.ref it) "reversed":=⟨_,hI,rfl⟩
 refine Xh hT jB (Ra jB hT oG (show Qd _ _ (ret (.ref it)) _ _ s from ?_) (qN _))
 exact PK ⟨_,rfl,"reversed",_,hT,dC.lookup,h⟩
end
def Itv (K:Qu) (a:Addr) (n:Nat):It :=
 ⟨fun i H=>i < n/\∃ xs x,SqT K H a xs/\xs.length=n/\xs[n - 1 - i]? = some x,fun i H x H'=>H'=H/\∀ xs,SqT K H a xs->xs[n - 1 - i]? = some x,fun i _=>i=n⟩
theorem Fb {P:Qx} {w:QG} {K:Qu} {tg:Expr} (a it:Addr) (n:Nat) (hn:(n:Int) < 2 ^ 63):Turn P w K tg (Itv K a n) [it] it (fun i h=>RIt h it a ((n:Int) - 1 - (i:Int))) where
 mem:=by simp
 obj:=fun i h st b hb=>by
  have e:b=it:=by simpa using hb
  subst e
  exact⟨_,st,fun v z=>by cases (show Data.fields _=Data.cell v from z)⟩
 keep:=fun i h h' st k=>k it (by simp) _ st
 item:=by
  intro X hP hw hK hc i pins s σ H E I hf st hg
  subst hP hw hK
  obtain⟨hin,xs,x,hq,hlen,hx⟩:=hg
  obtain⟨its,rv,p,hz⟩:=I.tuple hq
  obtain⟨u,hu,ru⟩:=rv.get hx
  obtain⟨f0,f1,f2,f3,f4,f5⟩:=hf it (by simp)
  have e:(n:Int) - 1 - (i:Int)=((n - 1 - i:Nat):Int):=by lia
  have st':RIt s.heap it a ((n - 1 - i:Nat):Int):=by rw[← e]; exact st
  refine Em st' p (by lia) (x:=u) (by simpa using hu) fun h' st2 sb=>?_
  have e2:((n - 1 - i:Nat):Int) - 1=(n:Int) - 1 - ((i+1:Nat):Int):=by lia
  rw[e2] at st2
  have I1:Inv X pins σ H { s with heap:=h',toks:=s.toks+1 }:=I.turned (t':=s.toks+1) (fun b o hb e=>(sb.2 b hb).trans e) f0 f1 f3 f4 f5
  exact⟨u,rfl,Gh (s:={ s with heap:=h',toks:=s.toks+1 }) st2 rfl rfl (by decide) ⟨x,H,I1,ru,⟨rfl,fun ys hy=>by rw[I.gC hy hq]; exact hx⟩,st2,fun b hb=>(hf b hb).1⟩⟩
 done:=by
  intro X hP hw hK hc i pins s σ H E I hf st hg
  subst hP hw hK
  cases (show i=n from hg)
  obtain⟨f0,f1,f2,f3,f4,f5⟩:=hf it (by simp)
  have st':RIt s.heap it a (-1):=by
   have e:(n:Int) - 1 - (n:Int) = -1:=by lia
   rw[← e]; exact st
  exact JG (I.ok.hd hc) st' fun h' eb=>⟨rfl,I.turned (t':=s.toks) (fun b o hb e=>eb b o hb e) f0 f1 f3 f4 f5⟩
 self:=fun _ _ _ _ _ st h=>xQ st h
def O1 (K:Qu) (ta:TA):TI:=fun σ H R=>ta σ H fun vs H1=>∃ a xs,vs=[.ref a]/\SqT K H1 a xs/\R (Itv K a xs.length) H1
theorem KN {X:Cx} {tg:Expr} {a:Expr} {ta:TA} {p pos:Vo} (hg:Gl X "reversed") (hm:X.mg "reversed" = none) (ha:PA X [a] ta) (hs:Qz [a] X.env=[(false,Tc a X.env)]:=by rfl) :
  PI X tg (.Call (.Name "reversed" p) [a] [] pos) (O1 X.K ta):=by
 intro pins s σ H R I h
 refine Call_ (fU I hg hm boot_reversed (Q9 (thn (ha pos pins s σ H _ I h) fun us s1 ⟨vs,H1,I1,r1,q1⟩=>?_) hs rfl))
 obtain⟨c,xs,e,hx,q⟩:=q1
 subst e
 obtain⟨u1,rfl,ru1⟩:=vals1 r1
 cases ru1
 obtain⟨its,rv,tp,hz⟩:=I1.tuple hx
 have hl:=rv.length
 have hn:=rE
 have hsz:((its.toArray.size:Nat):Int) < 2 ^ 63:=by rw[Qe,← hl]; lia
 refine BZ tp hsz ?_
 have g:RIt (s1.heap.push { cls:=.type "reversed",data:=.fields #[.ref c,.int ((its.toArray.size:Int) - 1) 0] }) s1.heap.objs.size c ((xs.length:Int) - 1 - ((0:Nat):Int)):=by
  have e:((xs.length:Int) - 1 - ((0:Nat):Int))=(its.toArray.size:Int) - 1:=by rw[Qe,← hl]; lia
  rw[e]
  exact PN _ rfl
 refine xQ g ⟨s1.heap.objs.size,[s1.heap.objs.size],_,_,H1,rfl,I1.kept (t':=s1.toks+1+1) fun b o e=>Pz _ e,Fb c _ xs.length (by lia),g,fun b hb=>?_,q⟩
 have e:b=s1.heap.objs.size:=by simpa using hb
 subst e
 exact I1.Ea (PX _) (I1.hok.fresh (PX _))
theorem Io {K:Qu} {a:Addr} {xs:List V} {g:TG} {tb:TS} {D:Ends} {σ:St} {H:Hp} (Pv:Nat->St->Hp->Prop) (h0:Pv 0 σ H) (hl:∀ i σ H,i<=xs.length->Pv i σ H->SqT K H a xs)
  (hs:∀ i x σ H,i < xs.length->xs[xs.length - 1 - i]? = some x->Pv i σ H->g x σ H fun σ2 H2=>tb { D with nx:=Pv (i+1),ct:=Pv (i+1),bk:=D.nx } σ2 H2) (hd:∀ σ H,Pv xs.length σ H->D.nx σ H) :
  ∃ W:Nat->Nat->St->Hp->Prop,(∃ m,W 0 m σ H)/\∀ i m σ H,W i m σ H →
   ((Itv K a xs.length).stop i H/\D.nx σ H)∨((Itv K a xs.length).go i H/\∃ N:St->Hp->Prop,(∀ σ' H',N σ' H'->∃ m',m' < m/\W (i+1) m' σ' H')/\∀ x H',(Itv K a xs.length).yld i H x H'->g x σ H' fun σ2 H2=>tb { D with nx:=N,ct:=N,bk:=D.nx } σ2 H2):=by
 refine⟨fun i m σ H=>m=xs.length - i/\i<=xs.length/\Pv i σ H,⟨xs.length,by simp,QB _,h0⟩,?_⟩
 rintro i m σ H ⟨rfl,hi,p⟩
 have q1:=hl i σ H hi p
 by_cases hlt:i < xs.length
 ·refine .inr ⟨⟨hlt,xs,xs[xs.length - 1 - i],q1,rfl,PJ (by lia)⟩,Pv (i+1),fun σ' H' p'=>⟨xs.length - (i+1),by lia,rfl,hlt,p'⟩,fun v H' y=>?_⟩
  obtain⟨rfl,hx⟩:=y
  exact hs i v σ _ hlt (hx xs q1) p
 ·have e:i=xs.length:=by lia
  subst e
  exact .inl ⟨rfl,hd σ H p⟩
end L2
namespace L2
open PySem PySem.Spec PyProof.Rows
section
variable {prog:Qx} {w:QG} {A:QK} {E:Value->PB->Prop} {s:PB}
theorem lE {h h':Rb} {a t:Addr} {its:Array Value} (ht:h.IsList t its) (sb:Sq a h h') (ne:t≠a):h'.IsList t its:=by
 obtain⟨o,e,r⟩:=ht
 exact⟨o,(sb.2 t ne).trans e,r⟩
theorem cU {h h':Rb} {a it t:Addr} {i:Nat} (ht:h.IsListIter it t i) (sb:Sq a h h') (ne:it≠a):h'.IsListIter it t i:=by
 obtain⟨o,e,r⟩:=ht
 exact⟨o,(sb.2 it ne).trans e,r⟩
theorem Ir {z p q i1 i2 l1 l2:Addr} {k:Nat} {xs ys:Array Value} {x y a b:Value} {Q:Option Value->PB->Prop} (D:Zap z p q i1 i2 l1 l2)
  (hz:Ul s.heap z p q .none) (hp:U7 s.heap p (.ref i1) (.ref i2)) (hq:U7 s.heap q a b) (j1:s.heap.IsTupleIter i1 l1 k) (j2:s.heap.IsListIter i2 l2 k) (t1:s.heap.IsTuple l1 xs) (t2:s.heap.IsList l2 ys)
  (hx:xs[k]? = some x) (hy:ys[k]? = some y)
  (hQ:∀ h',Ul h' z p q (RJ s.heap.objs.size)->U7 h' q x y->h'.IsTupleIter i1 l1 (k+1)->h'.IsListIter i2 l2 (k+1)->U7 h' s.heap.objs.size x y->h'.objs.size=s.heap.objs.size+1 →
   (∀ c o,c≠z->c≠q->c≠i1->c≠i2->s.heap.get? c=some o->h'.get? c=some o)->Q (some (.ref s.heap.objs.size)) { s with heap:=h' }):Qd (Qt prog w) A (Th (.ref z)) Q E s:=by
 have hT:s.TypeIs (.ref z) "zip":=⟨_,hz,rfl⟩; unfold Th
 refine Px (S7 (Q3 (name:=Sg "__next__") hT Tn (Ra Tn hT Wv ?_ (Wh _))))
 show Qd _ _ (W6 (.ref z) 2 >>= _) _ _ _; refine Px (QX hz rfl (x:=.bool false) rfl ?_)
 show Qd _ _ (W6 (.ref z) 3 >>= _) _ _ _; refine Px (QX hz rfl (x:=.ref p) rfl ?_); refine Px (Rf hp rfl ?_)
 show Qd _ _ (Q4 (.ref z) >>= _) _ _ _; refine Px ?_; unfold Q4
 refine Px (QX hz rfl (x:=.none) rfl (PK ?_)); simp only[if_true]; refine Px (Uv ?_); refine Px (QX hz rfl (x:=.ref q) rfl ?_)
 refine Px (RG hz (by simp) fun h1 z1 b1=>?_); replace z1:Ul h1 z p q .ellipsis:=z1
 refine Px ?_; simp only[Wr,WN,Vc,Vl]; refine Px (Px (Uo ?_))
 show Qd _ _ (QV (.ref i1) >>= _) _ _ _; refine Px (nM (cX j1 b1 D.az) (ik t1 b1 D.xz) hx fun h2 u1 b2=>PK ?_)
 have q2:U7 h2 q a b:=(b2.2 _ D.qa).trans ((b1.2 _ D.qz).trans hq); refine Px (Rf q2 rfl ?_); refine Px (WT q2 fun h3 q3 b3=>?_)
 replace q3:U7 h3 q x b:=q3; refine Px (Uc (PK ?_)); refine Px (Px (Uo ?_))
 show Qd _ _ (QV (.ref i2) >>= _) _ _ _
 refine Px (wpAny_nextOf_list_item (cU (cU (cU j2 b1 D.bz) b2 D.ab.symm) b3 D.qb.symm) (lE (lE (lE t2 b1 D.yz) b2 D.ya) b3 D.yq) hy fun h4 u2 b4=>PK ?_)
 have q4:U7 h4 q x b:=(b4.2 _ D.qb).trans q3; refine Px (Rf q4 rfl ?_); refine Px (WT q4 fun h5 q5 b5=>?_)
 replace q5:U7 h5 q x y:=q5; refine Px (Uc (PK (PK ?_))); refine Px (Rf q5 rfl ?_); refine Px (wpAny_newTuple ?_)
 have sz:h5.objs.size=s.heap.objs.size:=by rw[b5.1,b4.1,b3.1,b2.1,b1.1]
 have z5:Ul h5 z p q .ellipsis:=(b5.2 _ D.qz.symm).trans ((b4.2 _ D.bz.symm).trans ((b3.2 _ D.qz.symm).trans ((b2.2 _ D.az.symm).trans z1)))
 have kp:∀ c o,c≠z->c≠q->c≠i1->c≠i2->s.heap.get? c=some o->h5.get? c=some o:=fun c o c1 c2 c3 c4 e=>(b5.2 c c2).trans ((b4.2 c c4).trans ((b3.2 c c2).trans ((b2.2 c c3).trans ((b1.2 c c1).trans e))))
 have u15:h5.IsTupleIter i1 l1 (k+1):=cX (cX (cX u1 b3 D.qa.symm) b4 D.ab) b5 D.qa.symm
 have u25:h5.IsListIter i2 l2 (k+1):=cU u2 b5 D.qb.symm
 have zl:z < h5.objs.size:=Qf z5
 show Qd _ _ (SX (.ref z) (.ref h5.objs.size) >>= _) _ _ _; refine Px ?_; unfold SX
 have z6:Ul (h5.push { cls:=.type "tuple",data:=.seq #[x,y] }) z p q .ellipsis:=Pz _ z5
 refine Px (RG z6 (by simp) fun h7 z7 b7=>?_); replace z7:Ul h7 z p q (RJ h5.objs.size):=z7
 refine RG z7 (by simp) fun h8 z8 b8=>?_; replace z8:Ul h8 z p q (RJ h5.objs.size):=z8
 have up:∀ c o,c≠z->h5.get? c=some o->h8.get? c=some o:=fun c o c1 e=>(b8.2 c c1).trans ((b7.2 c c1).trans (Pz _ e))
 have t8:U7 h8 h5.objs.size x y:=(b8.2 _ (R6 zl)).trans ((b7.2 _ (R6 zl)).trans (PN _ rfl))
 have s8:h8.objs.size=h5.objs.size+1:=by rw[b8.1,b7.1,Q7]
 rw[sz] at z8 t8 s8; refine PK ⟨_,rfl,?_⟩
 show Qd _ _ _ _ _ _
 rw[sz]
 exact PK (hQ h8 z8 (up _ _ D.qz q5) (by obtain⟨o,e,r⟩:=u15; exact⟨o,up _ o D.az e,r⟩) (by obtain⟨o,e,r⟩:=u25; exact⟨o,up _ o D.bz e,r⟩) t8 s8 fun c o c1 c2 c3 c4 e=>up c o c1 (kp c o c1 c2 c3 c4 e))
theorem Jf {z p q i1 i2 l1 l2:Addr} {k:Nat} {xs ys:Array Value} {a b:Value} {Q:Fin->PB->Prop} (hh:A.handled=none) (D:Zap z p q i1 i2 l1 l2)
  (hz:Ul s.heap z p q .none) (hp:U7 s.heap p (.ref i1) (.ref i2)) (hq:U7 s.heap q a b) (j1:s.heap.IsTupleIter i1 l1 k) (j2:s.heap.IsListIter i2 l2 k) (t1:s.heap.IsTuple l1 xs) (t2:s.heap.IsList l2 ys)
  (hend:xs[k]? = none∨ys[k]? = none) (hE:∀ h' e,(∀ c o,c≠z->c≠q->c≠i1->c≠i2->s.heap.get? c=some o->h'.get? c=some o)->(∃ o,h'.get? e=some o/\o.cls = .type "StopIteration")->E (.ref e) { s with heap:=h' }) :
  Qd (Qt prog w) A (Ss.«zip.__next__» ⟨[.ref z],[]⟩) Q E s:=by
 show Qd _ _ (W6 (.ref z) 2 >>= _) _ _ _; refine Px (QX hz rfl (x:=.bool false) rfl ?_)
 show Qd _ _ (W6 (.ref z) 3 >>= _) _ _ _; refine Px (QX hz rfl (x:=.ref p) rfl ?_); refine Px (Rf hp rfl ?_)
 show Qd _ _ (Q4 (.ref z) >>= _) _ _ _; refine Px ?_; unfold Q4
 refine Px (QX hz rfl (x:=.none) rfl (PK ?_)); simp only[if_true]; refine Px (Uv ?_); refine Px (QX hz rfl (x:=.ref q) rfl ?_)
 refine Px (RG hz (by simp) fun h1 z1 b1=>?_); replace z1:Ul h1 z p q .ellipsis:=z1
 refine Px ?_; simp only[Wr,WN,Vc,Vl]; refine Px (Px (Uo ?_))
 show Qd _ _ (QV (.ref i1) >>= _) _ _ _
 cases hx:xs[k]? with
 | none =>
  refine Px (Hh hh (cX j1 b1 D.az) (ik t1 b1 D.xz) hx fun h2 e b2 he=>?_)
  obtain⟨oe,ho,hc⟩:=he
  have z2:Ul h2 z p q .ellipsis:=b2 _ _ D.az.symm z1
  have ez:e≠z:=fun u=>by subst u; rw[z2] at ho; cases ho; simp at hc
  exact RG z2 (by simp) fun h3 _ b3=>hE h3 e (fun c o c1 _ c3 _ u=>(b3.2 c c1).trans (b2 _ _ c3 ((b1.2 c c1).trans u))) ⟨oe,(b3.2 e ez).trans ho,hc⟩
 | some x =>
  have hy:ys[k]? = none:=hend.elim (fun u=>by rw[hx] at u; cases u) id
  refine Px (nM (cX j1 b1 D.az) (ik t1 b1 D.xz) hx fun h2 u1 b2=>PK ?_)
  have q2:U7 h2 q a b:=(b2.2 _ D.qa).trans ((b1.2 _ D.qz).trans hq); refine Px (Rf q2 rfl ?_); refine Px (WT q2 fun h3 q3 b3=>?_)
  refine Px (Uc (PK ?_)); refine Px (Px (Uo ?_)); show Qd _ _ (QV (.ref i2) >>= _) _ _ _
  refine Px (wpAny_nextOf_list_end hh (cU (cU (cU j2 b1 D.bz) b2 D.ab.symm) b3 D.qb.symm) (lE (lE (lE t2 b1 D.yz) b2 D.ya) b3 D.yq) hy fun h4 e b4 he=>?_)
  obtain⟨oe,ho,hc⟩:=he
  have z4:Ul h4 z p q .ellipsis:=b4 _ _ D.bz.symm ((b3.2 _ D.qz.symm).trans ((b2.2 _ D.az.symm).trans z1))
  have ez:e≠z:=fun u=>by subst u; rw[z4] at ho; cases ho; simp at hc
  exact RG z4 (by simp) fun h5 _ b5=>hE h5 e (fun c o c1 c2 c3 c4 u=>(b5.2 c c1).trans (b4 _ _ c4 ((b3.2 c c2).trans ((b2.2 c c3).trans ((b1.2 c c1).trans u))))) ⟨oe,(b5.2 e ez).trans ho,hc⟩
theorem MJ {z p q i1 i2 l1 l2:Addr} {k:Nat} {xs ys:Array Value} {a b:Value} {Q:Option Value->PB->Prop} (hh:A.handled=none) (D:Zap z p q i1 i2 l1 l2)
  (hz:Ul s.heap z p q .none) (hp:U7 s.heap p (.ref i1) (.ref i2)) (hq:U7 s.heap q a b) (j1:s.heap.IsTupleIter i1 l1 k) (j2:s.heap.IsListIter i2 l2 k) (t1:s.heap.IsTuple l1 xs) (t2:s.heap.IsList l2 ys)
  (hend:xs[k]? = none∨ys[k]? = none) (hQ:∀ h',(∀ c o,c≠z->c≠q->c≠i1->c≠i2->s.heap.get? c=some o->h'.get? c=some o)->Q none { s with heap:=h' }):Qd (Qt prog w) A (Th (.ref z)) Q E s:=by
 have hT:s.TypeIs (.ref z) "zip":=⟨_,hz,rfl⟩; unfold Th
 refine Px (S7 (Q3 (name:=Sg "__next__") hT Tn (Ra Tn hT Wv (Jf hh D hz hp hq j1 j2 t1 t2 hend fun h' e kp he=>?_) (Wh _))))
 obtain⟨o,ho,hc⟩:=he
 exact Px (TQ (T:="StopIteration") (b:=true) ⟨o,ho,hc⟩ V5 (PK (hQ _ kp)))
abbrev uB (h:Rb) (t:Addr):Rb:=h.push { cls:=.type "list_iterator",data:=.fields #[.ref t,.int 0 0] }
abbrev uC (h:Rb) (t u:Addr):Rb:=(uB (zA h t) u).push { cls:=.type "tuple",data:=.seq #[.ref h.objs.size,.ref (zA h t).objs.size] }
abbrev uD (h:Rb) (t u:Addr):Rb:=(uC h t u).push { cls:=.type "tuple",data:=.seq #[.none,.none] }
abbrev uE (h:Rb) (t u:Addr):Rb:=(uD h t u).push { cls:=.type "zip",data:=.fields #[.none,.bool false,.bool false,.ref (uB (zA h t) u).objs.size,.ref (uC h t u).objs.size] }
theorem Le (l1 l2:Addr) (xs ys:Array Value) :
  Meets (Ss.«zip.__new__» ⟨[.type "zip",.ref l1,.ref l2],[]⟩) (fun _ R s=>s.heap.IsTuple l1 xs/\s.heap.IsList l2 ys/\R (.ok (.ret (.ref (uD s.heap l1 l2).objs.size))) { s with heap:=uE s.heap l1 l2 }) :=
 .of_wp fun prog w A R s h=>by
  obtain⟨hp,g,d,tk,os⟩:=s; obtain⟨a1,a2,h⟩:=h; have hsub:=sub_zip
  have T1:Xv (Wf ⟨hp,g,d,tk,os⟩) l1 xs:=a1
  have T2:Heap.IsList (Wf ⟨hp.push { cls:=.type "tuple_iterator",data:=.fields #[.ref l1,.int 0 0] },g,d,tk,os⟩) l2 ys:=by
   obtain⟨o,e,r⟩:=a2
   exact⟨o,Pz _ e,r⟩
  wp_walk using Ud T1,Ut T2
  exact⟨_,rfl,h⟩
theorem J0 {l1 l2:Addr} {xs ys:Array Value} {Q:Value->PB->Prop} (t1:s.heap.IsTuple l1 xs) (t2:s.heap.IsList l2 ys)
  (h:∀ h',Ul h' (s.heap.objs.size+4) (s.heap.objs.size+2) (s.heap.objs.size+3) .none->U7 h' (s.heap.objs.size+2) (.ref s.heap.objs.size) (.ref (s.heap.objs.size+1))->U7 h' (s.heap.objs.size+3) .none .none →
   h'.IsTupleIter s.heap.objs.size l1 0->h'.IsListIter (s.heap.objs.size+1) l2 0->(∀ c o,s.heap.get? c=some o->h'.get? c=some o)->Q (.ref (s.heap.objs.size+4)) { s with heap:=h' }) :
  Qd (Qt prog w) A (call (.type "zip") [.ref l1,.ref l2]) Q E s:=by
 refine Xm F.called_zip (by decide) (F.typeCall_zip_2 _ _) (F.newCall_zip_2 _ _) (fun obj=>F.args_object_init_3 obj _ _) F.entry_zip_new (Le l1 l2 xs ys) ⟨t1,t2,?_⟩
 have y1:(zA s.heap l1).objs.size=s.heap.objs.size+1:=Q7 ..
 have y2:(uB (zA s.heap l1) l2).objs.size=s.heap.objs.size+2:=by rw[Q7,y1]
 have y3:(uC s.heap l1 l2).objs.size=s.heap.objs.size+3:=by rw[Q7,y2]
 have y4:(uD s.heap l1 l2).objs.size=s.heap.objs.size+4:=by rw[Q7,y3]
 have w5:(uE s.heap l1 l2).get? (uD s.heap l1 l2).objs.size=some _:=PN _ rfl
 have w4:(uE s.heap l1 l2).get? (uC s.heap l1 l2).objs.size=some _:=Pz _ (PN _ rfl)
 have w3:(uE s.heap l1 l2).get? (uB (zA s.heap l1) l2).objs.size=some _:=Pz _ (Pz _ (PN _ rfl))
 have w2:(uE s.heap l1 l2).get? (zA s.heap l1).objs.size=some _:=Pz _ (Pz _ (Pz _ (PN _ rfl)))
 have w1:(uE s.heap l1 l2).get? s.heap.objs.size=some _:=Pz _ (Pz _ (Pz _ (Pz _ (PN _ rfl))))
 show _/\_
 rw[y2,y3,y4] at w5; rw[y1,y2] at w3; rw[y3] at w4; rw[y1] at w2; rw[y4]
 exact⟨⟨_,w5,rfl⟩,h _ w5 w3 w4 ⟨_,w1,rfl,rfl⟩ ⟨_,w2,rfl,rfl⟩ fun c o u=>Pz _ (Pz _ (Pz _ (Pz _ (Pz _ u))))⟩
end
def Itu (K : Qu) (a b : Addr) : It :=
  ⟨fun i H => ∃ xs ys x y, SqT K H a xs ∧ SqL K H b ys ∧ xs[i]? = some x ∧ ys[i]? = some y,
   fun i H v H' => ∃ p x y, H p = none ∧ v = .ref p ∧ (∀ xs, SqT K H a xs → xs[i]? = some x) ∧ (∀ ys, SqL K H b ys → ys[i]? = some y) ∧ H' = upd H p (.tup [x, y]),
   fun i H => ∃ xs ys, SqT K H a xs ∧ SqL K H b ys ∧ (xs.length ≤ i ∨ ys.length ≤ i)⟩
def tnU (z p q i1 i2 a b:Addr) (i:Nat) (h:Rb):Prop:=Ul h z p q .none/\U7 h p (.ref i1) (.ref i2)/\(∃ u v,U7 h q u v)/\h.IsTupleIter i1 a i/\h.IsListIter i2 b i
theorem Dz {P:Qx} {w:QG} {K:Qu} {elts:List Expr} {x1} {pos:Vo} {z p q i1 i2 a b:Addr} (D:Zap z p q i1 i2 a b) :
  Turn P w K (.Tuple elts x1 pos) (Itu K a b) [z,p,q,i1,i2] z (tnU z p q i1 i2 a b) where
 mem:=by simp
 obj:=fun i h st c hc=>by
  obtain⟨hz,hp,⟨u,v,hq⟩,⟨o1,e1,_,d1⟩,⟨o2,e2,_,d2⟩⟩:=st
  simp only[Ri,RL,or_false] at hc
  rcases hc with rfl | rfl | rfl | rfl | rfl
  ·exact⟨_,hz,fun v z=>by cases z⟩
  ·exact⟨_,hp,fun v z=>by cases z⟩
  ·exact⟨_,hq,fun v z=>by cases z⟩
  ·exact⟨_,e1,fun v z=>by rw[d1] at z; cases z⟩
  ·exact⟨_,e2,fun v z=>by rw[d2] at z; cases z⟩
 keep:=fun i h h' st k=>by
  obtain⟨hz,hp,⟨u,v,hq⟩,⟨o1,e1,r1⟩,⟨o2,e2,r2⟩⟩:=st
  exact⟨k z (by simp) _ hz,k p (by simp) _ hp,⟨u,v,k q (by simp) _ hq⟩,⟨o1,k i1 (by simp) _ e1,r1⟩,⟨o2,k i2 (by simp) _ e2,r2⟩⟩
 item:=by
  intro X hP hw hK hc i pins s σ H E I hf st hg
  subst hP hw hK
  obtain⟨xs,ys,x,y,hx,hy,ex,ey⟩:=hg
  obtain⟨hz,hp,⟨u,v,hq⟩,j1,j2⟩:=st
  obtain⟨its,rv,tp,_⟩:=I.tuple hx
  obtain⟨its2,rv2,tp2,_⟩:=I.list hy
  obtain⟨xu,hxu,rx⟩:=rv.get ex
  obtain⟨yu,hyu,ry⟩:=rv2.get ey
  refine Ir D hz hp hq j1 j2 (show s.heap.IsTuple a its.toArray from tp) (show s.heap.IsList b its2.toArray from tp2.isList) (x:=xu) (y:=yu) (by simpa using hxu) (by simpa using hyu) fun h' z' q' u1 u2 t' _ kp=>⟨_,rfl,?_⟩
  refine wpAny_letOwnedTupleGo_zip z' fun h2 z2 b2=>?_
  have lt:∀ {c o},s.heap.get? c=some o->c < s.heap.objs.size:=fun e=>Qf e
  have zne:s.heap.objs.size≠z:=R6 (lt hz)
  have hfr:H s.heap.objs.size=none:=I.fresh
  have I1:Inv X pins σ (upd H s.heap.objs.size (.tup [x,y])) { s with heap:=s.heap.push { cls:=.type "tuple",data:=.seq #[xu,yu] } } :=
   I.laid (t':=s.toks) (fun _ _ e=>Pz _ e) (PX _) ⟨by show 2<=sizeLine; decide,[xu,yu],.cons rx (.cons ry .nil),⟨_,PN _ rfl,rfl,_,rfl⟩⟩
  have blt:∀ c∈[z,p,q,i1,i2],c < s.heap.objs.size:=fun c hc=>by
   obtain⟨_,e1,_⟩:=j1
   obtain⟨_,e2,_⟩:=j2
   simp only[Ri,RL,or_false] at hc
   rcases hc with rfl | rfl | rfl | rfl | rfl
   ·exact lt hz
   ·exact lt hp
   ·exact lt hq
   ·exact lt e1
   ·exact lt e2
  have ff:∀ c∈[z,p,q,i1,i2],uO X pins (upd H s.heap.objs.size (.tup [x,y])) c:=fun c hc=>by
   obtain⟨f0,fr⟩:=hf c hc
   exact⟨by rw[bx (Qv (blt c hc))]; exact f0,fr⟩
  have kk:∀ c o,c ∉ [z,q,i1,i2]->(s.heap.push { cls:=.type "tuple",data:=.seq #[xu,yu] }).get? c=some o->h2.get? c=some o:=fun c o hc e=>by
   have c1:c≠z:=fun h=>hc (by simp [h])
   refine (b2.2 c c1).trans ?_
   rcases VB e with⟨ec,eo⟩ | e'
   ·subst ec
    subst eo
    exact t'
   ·exact kp c o c1 (fun h=>hc (by simp [h])) (fun h=>hc (by simp [h])) (fun h=>hc (by simp [h])) e'
  have I2:Inv X pins σ (upd H s.heap.objs.size (.tup [x,y])) { s with heap:=h2 } :=
   Inv.iB (s:={ s with heap:=s.heap.push { cls:=.type "tuple",data:=.seq #[xu,yu] } }) (h':=h2) (t':=s.toks) (ch:=[z,q,i1,i2]) I1 kk fun c hc=>ff c (by
    simp only[Ri] at hc ⊢
    rcases hc with h | h | h | h
    ·exact .inl h
    ·exact .inr (.inr (.inl h))
    ·exact .inr (.inr (.inr (.inl h)))
    ·exact .inr (.inr (.inr (.inr h))))
  refine⟨.ref s.heap.objs.size,_,I2,rfl,⟨_,x,y,hfr,rfl,fun zs hzs=>?_,fun zs hzs=>?_,rfl⟩,⟨z2,(b2.2 _ D.pz).trans (kp _ _ D.pz D.pq D.pa D.pb hp),⟨_,_,(b2.2 _ D.qz).trans q'⟩,cX u1 b2 D.az,cU u2 b2 D.bz⟩,fun c hc=>(ff c hc).1⟩
  ·rw[I.gC hzs hx]; exact ex
  ·rw[I.mz hzs hy]; exact ey
 done:=by
  intro X hP hw hK hc i pins s σ H E I hf st hg
  subst hP hw hK
  obtain⟨xs,ys,hx,hy,hend⟩:=hg
  obtain⟨hz,hp,⟨u,v,hq⟩,j1,j2⟩:=st
  obtain⟨its,rv,tp,_⟩:=I.tuple hx
  obtain⟨its2,rv2,tp2,_⟩:=I.list hy
  have l1:=rv.length
  have l2:=rv2.length
  refine MJ (I.ok.hd hc) D hz hp hq j1 j2 (show s.heap.IsTuple a its.toArray from tp) (show s.heap.IsList b its2.toArray from tp2.isList) (hend.imp (fun h=>by simp; lia) fun h=>by simp; lia) fun h' kp=>⟨rfl,?_⟩
  exact I.iB (t':=s.toks) (ch:=[z,q,i1,i2]) (fun c o hc e=>kp c o (fun h=>hc (by simp [h])) (fun h=>hc (by simp [h])) (fun h=>hc (by simp [h])) (fun h=>hc (by simp [h])) e)
   fun c hc=>hf c (by simp only[Ri] at hc ⊢; rcases hc with h | h | h | h; exact .inl h; exact .inr (.inr (.inl h)); exact .inr (.inr (.inr (.inl h))); exact .inr (.inr (.inr (.inr h))))
 self:=fun _ _ _ _ _ st h=>Wn st.1 h
def O5 (K:Qu) (ta:TA):TI:=fun σ H R=>ta σ H fun vs H1=>∃ a b xs ys,vs=[.ref a,.ref b]/\SqT K H1 a xs/\SqL K H1 b ys/\R (Itu K a b) H1
theorem HR {X:Cx} {elts:List Expr} {x1} {tpos:Vo} {a b:Expr} {ta:TA} {p pos:Vo} (hg:Gl X "zip") (hm:X.mg "zip" = none) (ha:PA X [a,b] ta) (hs:Qz [a,b] X.env=[(false,Tc a X.env),(false,Tc b X.env)]:=by rfl) (hs2:Qz [b] X.env=[(false,Tc b X.env)]:=by rfl) :
  PI X (.Tuple elts x1 tpos) (.Call (.Name "zip" p) [a,b] [] pos) (O5 X.K ta):=by
 intro pins s σ H R I h
 refine Call_ (fU I hg hm boot_zip (Q9 (thn (ha pos pins s σ H _ I h) fun us s1 ⟨vs,H1,I1,r1,q1⟩=>?_) (by rw[hs,hs2]) (by rw[hs2]; rfl)))
 obtain⟨c,d,xs,ys,e,hx,hy,q⟩:=q1
 subst e
 obtain⟨u1,u2,rfl,ru1,ru2⟩:=vals2 r1
 cases ru1
 cases ru2
 obtain⟨its,_,tp,_⟩:=I1.tuple hx
 obtain⟨its2,_,tp2,_⟩:=I1.list hy
 refine J0 (show s1.heap.IsTuple c its.toArray from tp) (show s1.heap.IsList d its2.toArray from tp2.isList) fun h' z' p' q' j1 j2 kp=>?_
 have lc:c < s1.heap.objs.size:=by obtain⟨o,e,_⟩:=tp; exact Qf e
 have ld:d < s1.heap.objs.size:=by obtain⟨o,e,_⟩:=tp2.isList; exact Qf e
 have D:Zap (s1.heap.objs.size+4) (s1.heap.objs.size+2) (s1.heap.objs.size+3) s1.heap.objs.size (s1.heap.objs.size+1) c d:=HY lc ld
 refine Wn z' ⟨_,_,_,_,H1,rfl,I1.kept (t':=s1.toks) kp,Dz D,⟨z',p',⟨_,_,q'⟩,j1,j2⟩,fun e he=>?_,q⟩
 have hle:s1.heap.objs.size<=e:=by
  simp only[Ri,RL,or_false] at he
  rcases he with rfl | rfl | rfl | rfl | rfl <;> lia
 exact I1.Ea hle (I1.hok.fresh hle)
theorem xN {K:Qu} {a b D:Addr} {xs ys:List V} {g:TG} {tt:TT} {te:TE} {H1:Hp} {Q:Hp->Prop} {σ0:St} (hlen:xs.length=ys.length) (Pv:Nat->List V->St->Hp->Prop) (h0:Pv 0 [] σ0 (upd H1 D (.lst [])))
  (hl:∀ i zs σ H,i<=xs.length->Pv i zs σ H->SqT K H a xs/\SqL K H b ys/\H D=some (.lst zs))
  (hs:∀ i zs x y p σ H,xs[i]? = some x->ys[i]? = some y->H p=none->Pv i zs σ H->g (.ref p) σ (upd H p (.tup [x,y])) fun σ3 H3=>tt σ3 H3 fun c H4=>if c=true then te σ3 H4 fun v H5=>H5 D=some (.lst zs)/\zs.length < sizeLine/\Pv (i+1) (zs++[v]) σ3 (upd H5 D (.lst (zs++[v]))) else Pv (i+1) zs σ3 H4)
  (hd:∀ zs σ H,Pv xs.length zs σ H->Q H):gA D σ0 (Itu K a b) g tt te H1 Q:=by
 refine⟨fun i m zs σ H=>m=xs.length - i/\i<=xs.length/\Pv i zs σ H,⟨xs.length,by simp,QB _,h0⟩,?_⟩
 rintro i m zs σ H ⟨rfl,hi,p⟩
 obtain⟨q1,q2,qD⟩:=hl i zs σ H hi p
 refine⟨qD,?_⟩
 by_cases hlt:i < xs.length
 ·have hlt2:i < ys.length:=by lia
  refine .inr ⟨⟨xs,ys,xs[i],ys[i],q1,q2,by simp [hlt],by simp [hlt2]⟩,Pv (i+1),fun zs' σ' H' p'=>⟨xs.length - (i+1),by lia,rfl,hlt,p'⟩,fun v H' y=>?_⟩
  obtain⟨pp,x,y,hp,rfl,hx,hy,rfl⟩:=y
  exact hs i zs x y pp σ _ (hx xs q1) (hy ys q2) hp p
 ·have e:i=xs.length:=by lia
  subst e
  exact .inl ⟨⟨xs,ys,q1,q2,.inl (PX _)⟩,hd zs σ H p⟩
end L2
namespace L2
open PySem PySem.Spec PyProof.Rows
def Itn (K : Qu) (a : Addr) : It :=
  ⟨fun i H => ∃ xs x, SqL K H a xs ∧ xs[i]? = some x,
   fun i H v H' => ∃ p x, H p = none ∧ v = .ref p ∧ (∀ xs, SqL K H a xs → xs[i]? = some x) ∧ H' = upd H p (.tup [.int (i : Int), x]),
   fun i H => ∃ xs, SqL K H a xs ∧ xs.length ≤ i⟩
def tnN (e it a:Addr) (i:Nat) (h:Rb):Prop:=(∃ old,IsEnum h e it (i:Int) old)/\h.IsListIter it a i
theorem Dc {P:Qx} {w:QG} {K:Qu} {elts:List Expr} {x1} {pos:Vo} {e it a:Addr} (hne:e≠it) :
  Turn P w K (.Tuple elts x1 pos) (Itn K a) [e,it] e (tnN e it a) where
 mem:=by simp
 obj:=fun i h st c hc=>by
  obtain⟨⟨old,he⟩,⟨o,ho,_,d⟩⟩:=st
  simp only[Ri,RL,or_false] at hc
  rcases hc with rfl | rfl
  ·exact⟨_,he,fun v z=>by cases z⟩
  ·exact⟨_,ho,fun v z=>by rw[d] at z; cases z⟩
 keep:=fun i h h' st k=>by
  obtain⟨⟨old,he⟩,j⟩:=st
  exact⟨⟨old,k e (by simp) _ he⟩,j.at fun o q=>k it (by simp) o q⟩
 item:=by
  intro X hP hw hK hc i pins s σ H E I hf st hg
  subst hP hw hK
  obtain⟨xs,x,hx,ex⟩:=hg
  obtain⟨⟨old,he⟩,j⟩:=st
  obtain⟨its,rv,pl,_⟩:=I.list hx
  obtain⟨xu,hxu,rx⟩:=rv.get ex
  refine wpAny_pyNext_enum_item he j pl.isList (x:=xu) (by simpa using hxu) hne fun h' e1 j1 t1 z1 kp=>⟨_,rfl,?_⟩
  refine wpAny_letOwnedTupleGo_enum e1 fun h2 e2 b2=>?_
  have el:e < s.heap.objs.size:=Qf he
  have il:it < s.heap.objs.size:=by obtain⟨o,q,_⟩:=j; exact Qf q
  have I1:Inv X pins σ (upd H s.heap.objs.size (.tup [.int (i:Int),x])) { s with heap:=s.heap.push { cls:=.type "tuple",data:=.seq #[.int i s.toks,xu] },toks:=s.toks+1 } :=
   I.laid (t':=s.toks+1) (fun _ _ q=>Pz _ q) (PX _) ⟨by show 2<=sizeLine; decide,[.int i s.toks,xu],.cons ⟨_,rfl⟩ (.cons rx .nil),⟨_,PN _ rfl,rfl,_,rfl⟩⟩
  have ff:∀ c∈[e,it],uO X pins (upd H s.heap.objs.size (.tup [.int (i:Int),x])) c:=fun c hc=>by
   obtain⟨f0,fr⟩:=hf c hc
   have cl:c < s.heap.objs.size:=by
    simp only[Ri,RL,or_false] at hc
    rcases hc with rfl | rfl
    ·exact el
    ·exact il
   exact⟨by rw[bx (Qv cl)]; exact f0,fr⟩
  have kk:∀ c o,c ∉ [e,it]->(s.heap.push { cls:=.type "tuple",data:=.seq #[.int i s.toks,xu] }).get? c=some o->h2.get? c=some o:=fun c o hc q=>by
   have c1:c≠e:=fun h=>hc (by simp [h])
   have c2:c≠it:=fun h=>hc (by simp [h])
   refine (b2.2 c c1).trans ?_
   rcases VB q with⟨ec,eo⟩ | q'
   ·subst ec
    subst eo
    exact t1
   ·exact kp c o c1 c2 q'
  have I2:Inv X pins σ (upd H s.heap.objs.size (.tup [.int (i:Int),x])) { s with heap:=h2,toks:=s.toks+1 } :=
   Inv.iB (s:={ s with heap:=s.heap.push { cls:=.type "tuple",data:=.seq #[.int i s.toks,xu] },toks:=s.toks+1 }) (h':=h2) (t':=s.toks+1) (ch:=[e,it]) I1 kk ff
  refine⟨.ref s.heap.objs.size,_,I2,rfl,⟨_,x,I.fresh,rfl,fun zs hzs=>?_,rfl⟩,⟨⟨_,e2⟩,j1.at fun o q=>(b2.2 it (TF hne)).trans q⟩,fun c hc=>(ff c hc).1⟩
  rw[I.mz hzs hx]; exact ex
 done:=by
  intro X hP hw hK hc i pins s σ H E I hf st hg
  subst hP hw hK
  obtain⟨xs,hx,hend⟩:=hg
  obtain⟨⟨old,he⟩,j⟩:=st
  obtain⟨its,rv,pl,_⟩:=I.list hx
  have l1:=rv.length
  refine wpAny_pyNext_enum_end (I.ok.hd hc) he j pl.isList (by simp; lia) fun h' eb=>⟨rfl,?_⟩
  exact I.iB (t':=s.toks) (ch:=[e,it]) (fun c o hc q=>eb c o (fun h=>hc (by simp [h])) q) hf
 self:=fun _ _ _ _ _ st h=>by
  obtain⟨⟨old,he⟩,_⟩:=st
  exact We he h
def Nm (K:Qu) (ta:TA):TI:=fun σ H R=>ta σ H fun vs H1=>∃ a xs,vs=[.ref a]/\H1 a=some (.lst xs)/\R (Itn K a) H1
theorem zg {X:Cx} {elts:List Expr} {x1} {tpos:Vo} {a:Expr} {ta:TA} {p pos:Vo} (hg:Gl X "enumerate") (hm:X.mg "enumerate" = none) (ha:PA X [a] ta) (hs:Qz [a] X.env=[(false,Tc a X.env)]:=by rfl) :
  PI X (.Tuple elts x1 tpos) (.Call (.Name "enumerate" p) [a] [] pos) (Nm X.K ta):=by
 intro pins s σ H R I h
 refine Call_ (fU I hg hm boot_enumerate (Q9 (thn (ha pos pins s σ H _ I h) fun us s1 ⟨vs,H1,I1,r1,q1⟩=>?_) hs rfl))
 obtain⟨c,xs,e,hx,q⟩:=q1
 subst e
 obtain⟨u1,rfl,ru1⟩:=vals1 r1
 cases ru1
 obtain⟨z,its,n,rv,ho⟩:=I1.hok c _ hx
 refine call_enumerate_1 ho fun h' e1 j1 _ kp=>?_
 have en:s1.heap.objs.size+1≠s1.heap.objs.size:=R6 (Te _)
 refine We e1 ⟨_,_,_,_,H1,rfl,I1.kept (t':=s1.toks) kp,Dc (a:=c) en,⟨⟨_,e1⟩,j1⟩,fun b hb=>?_,q⟩
 have hle:s1.heap.objs.size<=b:=by
  simp only[Ri,RL,or_false] at hb
  rcases hb with rfl | rfl
  ·exact Tq _
  ·exact PX _
 exact I1.Ea hle (I1.hok.fresh hle)
theorem Ed {K:Qu} {a:Addr} {xs:List V} {g:TG} {tb:TS} {D:Ends} {σ:St} {H:Hp} (Pv:Nat->St->Hp->Prop) (h0:Pv 0 σ H) (hl:∀ i σ H,i<=xs.length->Pv i σ H->SqL K H a xs)
  (hs:∀ i x p σ H,xs[i]? = some x->H p=none->Pv i σ H->g (.ref p) σ (upd H p (.tup [.int (i:Int),x])) fun σ2 H2=>tb { D with nx:=Pv (i+1),ct:=Pv (i+1),bk:=D.nx } σ2 H2) (hd:∀ σ H,Pv xs.length σ H->D.nx σ H) :
  ∃ W:Nat->Nat->St->Hp->Prop,(∃ m,W 0 m σ H)/\∀ i m σ H,W i m σ H →
   ((Itn K a).stop i H/\D.nx σ H)∨((Itn K a).go i H/\∃ N:St->Hp->Prop,(∀ σ' H',N σ' H'->∃ m',m' < m/\W (i+1) m' σ' H')/\∀ x H',(Itn K a).yld i H x H'->g x σ H' fun σ2 H2=>tb { D with nx:=N,ct:=N,bk:=D.nx } σ2 H2):=by
 refine⟨fun i m σ H=>m=xs.length - i/\i<=xs.length/\Pv i σ H,⟨xs.length,by simp,QB _,h0⟩,?_⟩
 rintro i m σ H ⟨rfl,hi,p⟩
 have q1:=hl i σ H hi p
 by_cases hlt:i < xs.length
 ·refine .inr ⟨⟨xs,xs[i],q1,by simp [hlt]⟩,Pv (i+1),fun σ' H' p'=>⟨xs.length - (i+1),by lia,rfl,hlt,p'⟩,fun v H' y=>?_⟩
  obtain⟨pp,x,hp,rfl,hx,rfl⟩:=y
  exact hs i x pp σ _ (hx xs q1) hp p
 ·have e:i=xs.length:=by lia
  subst e
  exact .inl ⟨⟨xs,q1,PX _⟩,hd σ H p⟩
end L2
namespace L2
open PySem PySem.Spec PyProof.Rows
section
variable {X:Cx} {k:Nat}
inductive Gq (K:Qu) (x:V) (y:V) (H:Hp) (Q:VK):Prop where
 | mk (a b:Addr) (ns ms:List Int) (z0:x = .ref a) (z1:y = .ref b) (z2:SqT K H a (ns.map V.int)) (z3:SqT K H b (ms.map V.int)) (z4:Q (.bl (!decide (ns=ms))) H):Gq K x y H Q
def Ja (K:Qu):R2:=fun x y H Q=>Gq K x y H Q
theorem Bb (hu:X.A.units < cLine):OpR X (Td .NotEq) (Ja X.K):=by
 intro pins s σ H x y v u Q I rx ry h
 obtain⟨a,b,ns,ms,rfl,rfl,ha,hb,q⟩:=h
 cases rx
 cases ry
 obtain⟨its,r1,p1,_⟩:=I.tuple ha
 obtain⟨its2,r2,p2,_⟩:=I.tuple hb
 have i1:Rh its ns:=intsAre_of r1
 have i2:Rh its2 ms:=intsAre_of r2
 have l1:=i1.length
 have l2:=i2.length
 have r:=SeqAt.RcNeAt.tuples (e:=fun j=>ns.getD j 0 == ms.getD j 0) (show s.heap.IsTuple a its.toArray from p1) (show s.heap.IsTuple b its2.toArray from p2) hu fun j h1 h2=>by
  obtain⟨t,e1⟩:=ints_get i1 (j:=j) (by simpa using h1)
  obtain⟨t',e2⟩:=ints_get i2 (j:=j) (by simpa using h2)
  rw[Tr,Tr,e1,e2]
  exact Xc _ _ _ _
 have e:=mD ns ms
 have s1:its.toArray.size=ns.length:=by rw[Qe]; exact l1
 have s2:its2.toArray.size=ms.length:=by rw[Qe]; exact l2
 rw[s1,s2,e] at r
 exact r X.prog X.w X.xe _ ⟨.bl _,H,I,rfl,q⟩
end
end L2
namespace L2
open PySem PySem.Spec PyProof.Rows
theorem qj {X:Cx} {tg l:Expr} {tl:TE} (K:Qu) (hK:X.K=K) (hl:PE X l tl):PI X tg l (Mu K tl):=by
 subst hK
 exact dX hl
theorem JL {X:Cx} {tg l:Expr} {tl:TE} (K:Qu) (hK:X.K=K) (hl:PE X l tl):PI X tg l (Oh K tl):=by
 subst hK
 exact iU hl
end L2
namespace L2
open PySem PySem.Spec PyProof.Rows
section
variable {prog:Qx} {w:QG} {A:QK} {E:Value->PB->Prop} {s:PB}
end
end L2
namespace L2
open PySem PySem.Spec PyProof.Rows
theorem Draws.G5 {prog:Qx} {w:QG} {A:QK} (hh:A.handled=none) (it l:Addr) (hne:l≠it) (items:Array Value) :
  Draws prog w A it [it,l] items.size (fun i v=>items[i]? = some v) (fun i h=>h.IsTupleIter it l i/\h.IsTuple l items) where
 live:=fun _ _ st=>let ⟨o,ho,_⟩:=st.1; ⟨o,ho⟩
 frame:=fun _ _ _ st hk=>by
  obtain⟨⟨o1,q1,r1⟩,⟨o2,q2,r2⟩⟩:=st
  exact⟨⟨o1,hk it (by simp) o1 q1,r1⟩,⟨o2,hk l (by simp) o2 q2,r2⟩⟩
 item:=fun i s Q E hi st hQ=>by
  refine nM st.1 st.2 (x:=items[i]) (by simp [hi]) fun h' j' sb=>?_
  exact hQ _ h' s.toks (by simp [hi]) ⟨j',ik st.2 sb hne⟩ sb
 done:=fun s Q E st hE=>Hh hh st.1 st.2 (by simp) hE
theorem zH (l:Addr) (xs:Array Value) :
  Meets (Ss.«enumerate.__new__» ⟨[.type "enumerate",.ref l],[]⟩) (fun _ R s=>s.heap.IsTuple l xs/\R (.ok (.ret (.ref (zA s.heap l).objs.size))) { s with heap:=(zA s.heap l).push { cls:=.type "enumerate",data:=.fields #[.none,.bool false,.ref s.heap.objs.size,RJ 0,.none,.none] } }) :=
 .of_wp fun prog w A R s h=>by
  obtain⟨hp,g,d,tk,os⟩:=s; obtain⟨hl,h⟩:=h
  have hsub:=sub_enumerate
  have hL:Xv (Wf ⟨hp,g,d,tk,os⟩) l xs:=hl
  wp_walk
  refine wpAny_stack_any fun st=>PK ?_
  split
  ·rename_i c _ _ _ _ _
   cases (c == Ug "enumerate") <;> (wp_walk using Ud hL; exact⟨_,rfl,h⟩)
  ·wp_walk using Ud hL
   exact⟨_,rfl,h⟩
theorem yG {prog:Qx} {w:QG} {A:QK} {E:Value->PB->Prop} {s:PB} {l:Addr} {xs:Array Value} {Q:Value->PB->Prop} (hl:s.heap.IsTuple l xs)
  (h:∀ h',IsEnum h' (s.heap.objs.size+1) s.heap.objs.size 0 .none->h'.IsTupleIter s.heap.objs.size l 0->(∀ b o,s.heap.get? b=some o->h'.get? b=some o)->Q (.ref (s.heap.objs.size+1)) { s with heap:=h' }) :
  Qd (Qt prog w) A (call (.type "enumerate") [.ref l]) Q E s:=by
 refine Xm F.called_enumerate (by decide) (F.typeCall_enumerate_1 _) (F.newCall_enumerate_1 _) (fun obj=>F.args_object_init_2 obj _) F.entry_enumerate_new (zH l xs) ⟨hl,?_⟩
 have hz:(zA s.heap l).objs.size=s.heap.objs.size+1:=Q7 ..
 show _/\_
 have he:((zA s.heap l).push { cls:=.type "enumerate",data:=.fields #[.none,.bool false,.ref s.heap.objs.size,RJ 0,.none,.none] }).get? (zA s.heap l).objs.size=some _:=PN _ rfl
 rw[hz] at he ⊢
 exact⟨⟨_,he,rfl⟩,h _ he ⟨_,Pz _ (PN _ rfl),rfl,rfl⟩ fun b o x=>Pz _ (Pz _ x)⟩
def Itm (K : Qu) (a : Addr) : It :=
  ⟨fun i H => ∃ xs x, SqT K H a xs ∧ xs[i]? = some x,
   fun i H v H' => ∃ p x, H p = none ∧ v = .ref p ∧ (∀ xs, SqT K H a xs → xs[i]? = some x) ∧ H' = upd H p (.tup [.int (i : Int), x]),
   fun i H => ∃ xs, SqT K H a xs ∧ xs.length = i⟩
def tnM (e it a:Addr) (i:Nat) (h:Rb):Prop:=(∃ old,IsEnum h e it (i:Int) old)/\h.IsTupleIter it a i
theorem yt {P:Qx} {w:QG} {K:Qu} {elts:List Expr} {x1} {pos:Vo} {e it a:Addr} (hne:e≠it) :
  Turn P w K (.Tuple elts x1 pos) (Itm K a) [e,it] e (tnM e it a) where
 mem:=by simp
 obj:=fun i h st c hc=>by
  obtain⟨⟨old,he⟩,⟨o,ho,_,d⟩⟩:=st
  simp only[Ri,RL,or_false] at hc
  rcases hc with rfl | rfl
  ·exact⟨_,he,fun v z=>by cases z⟩
  ·exact⟨_,ho,fun v z=>by rw[d] at z; cases z⟩
 keep:=fun i h h' st k=>by
  obtain⟨⟨old,he⟩,j⟩:=st
  exact⟨⟨old,k e (by simp) _ he⟩,j.at fun o q=>k it (by simp) o q⟩
 item:=by
  intro X hP hw hK hc i pins s σ H E I hf st hg
  subst hP hw hK
  obtain⟨xs,x,hx,ex⟩:=hg
  obtain⟨⟨old,he⟩,j⟩:=st
  obtain⟨its,rv,pl,_⟩:=I.tuple hx
  obtain⟨xu,hxu,rx⟩:=rv.get ex
  have tl:a≠it:=fun z=>by
   obtain⟨o1,q1,c1,_⟩:=j
   obtain⟨o2,q2,c2,_⟩:=(show s.heap.IsTuple a its.toArray from pl)
   rw[z,q1] at q2
   cases q2
   rw[c1] at c2
   injection c2 with z2
   exact absurd z2 (by decide)
  have te:a≠e:=fun z=>by
   obtain⟨o2,q2,c2,_⟩:=(show s.heap.IsTuple a its.toArray from pl)
   rw[z,he] at q2
   cases q2
   injection c2 with z2
   exact absurd z2 (by decide)
  have hin:i < its.toArray.size:=by
   have:=(List.getElem?_eq_some_iff.mp hxu).1
   simpa using this
  refine wpAny_pyNext_enum_itemD (Draws.G5 (A:=X.A.in1) (I.ok.hd hc) it a tl its.toArray) he ⟨j,show s.heap.IsTuple a its.toArray from pl⟩ hin hne (by simp [hne,te.symm]) fun x' h' tk hP e1 st1 t1 z1 kp=>⟨_,rfl,?_⟩
  obtain⟨j1,_⟩:=st1
  have ex':x'=xu:=by
   have hP':its.toArray[i]? = some x':=hP
   rw[show its.toArray[i]? = some xu by simpa using hxu] at hP'
   exact (QJ hP').symm
  subst x'
  refine wpAny_letOwnedTupleGo_enum e1 fun h2 e2 b2=>?_
  have el:e < s.heap.objs.size:=Qf he
  have il:it < s.heap.objs.size:=by obtain⟨o,q,_⟩:=j; exact Qf q
  have I1:Inv X pins σ (upd H s.heap.objs.size (.tup [.int (i:Int),x])) { s with heap:=s.heap.push { cls:=.type "tuple",data:=.seq #[.int i tk,xu] },toks:=tk+1 } :=
   I.laid (t':=tk+1) (fun _ _ q=>Pz _ q) (PX _) ⟨by show 2<=sizeLine; decide,[.int i tk,xu],.cons ⟨_,rfl⟩ (.cons rx .nil),⟨_,PN _ rfl,rfl,_,rfl⟩⟩
  have ff:∀ c∈[e,it],uO X pins (upd H s.heap.objs.size (.tup [.int (i:Int),x])) c:=fun c hc=>by
   obtain⟨f0,fr⟩:=hf c hc
   have cl:c < s.heap.objs.size:=by
    simp only[Ri,RL,or_false] at hc
    rcases hc with rfl | rfl
    ·exact el
    ·exact il
   exact⟨by rw[bx (Qv cl)]; exact f0,fr⟩
  have kk:∀ c o,c ∉ [e,it]->(s.heap.push { cls:=.type "tuple",data:=.seq #[.int i tk,xu] }).get? c=some o->h2.get? c=some o:=fun c o hc q=>by
   have c1:c≠e:=fun h=>hc (by simp [h])
   have c2:c≠it:=fun h=>hc (by simp [h])
   refine (b2.2 c c1).trans ?_
   rcases VB q with⟨ec,eo⟩ | q'
   ·subst ec
    subst eo
    exact t1
   ·exact kp c o c1 c2 q'
  have I2:Inv X pins σ (upd H s.heap.objs.size (.tup [.int (i:Int),x])) { s with heap:=h2,toks:=tk+1 } :=
   Inv.iB (s:={ s with heap:=s.heap.push { cls:=.type "tuple",data:=.seq #[.int i tk,xu] },toks:=tk+1 }) (h':=h2) (t':=tk+1) (ch:=[e,it]) I1 kk ff
  refine⟨.ref s.heap.objs.size,_,I2,rfl,⟨_,x,I.fresh,rfl,fun zs hzs=>?_,rfl⟩,⟨⟨_,e2⟩,j1.at fun o q=>(b2.2 it (TF hne)).trans q⟩,fun c hc=>(ff c hc).1⟩
  rw[I.gC hzs hx]; exact ex
 done:=by
  intro X hP hw hK hc i pins s σ H E I hf st hg
  subst hP hw hK
  obtain⟨xs,hx,hend⟩:=hg
  obtain⟨⟨old,he⟩,j⟩:=st
  obtain⟨its,rv,pl,_⟩:=I.tuple hx
  have l1:=rv.length
  have tl:a≠it:=fun z=>by
   obtain⟨o1,q1,c1,_⟩:=j
   obtain⟨o2,q2,c2,_⟩:=(show s.heap.IsTuple a its.toArray from pl)
   rw[z,q1] at q2
   cases q2
   rw[c1] at c2
   injection c2 with z2
   exact absurd z2 (by decide)
  have hin:i=its.toArray.size:=by
   rw[Qe]
   lia
  refine wpAny_pyNext_enum_endD (Draws.G5 (A:=X.A.in1) (I.ok.hd hc) it a tl its.toArray) he ⟨by rw[← hin]; exact j,show s.heap.IsTuple a its.toArray from pl⟩ fun h' eb=>⟨rfl,?_⟩
  exact I.iB (t':=s.toks) (ch:=[e,it]) (fun c o hc q=>eb c o (fun h=>hc (by simp [h])) q) hf
 self:=fun _ _ _ _ _ st h=>by
  obtain⟨⟨old,he⟩,_⟩:=st
  exact We he h
def Mz (K:Qu) (ta:TA):TI:=fun σ H R=>ta σ H fun vs H1=>∃ a xs,vs=[.ref a]/\SqT K H1 a xs/\R (Itm K a) H1
theorem pN {X:Cx} {elts:List Expr} {x1} {tpos:Vo} {a:Expr} {ta:TA} {p pos:Vo} (hg:Gl X "enumerate") (hm:X.mg "enumerate" = none) (ha:PA X [a] ta) (hs:Qz [a] X.env=[(false,Tc a X.env)]:=by rfl) :
  PI X (.Tuple elts x1 tpos) (.Call (.Name "enumerate" p) [a] [] pos) (Mz X.K ta):=by
 intro pins s σ H R I h
 refine Call_ (fU I hg hm boot_enumerate (Q9 (thn (ha pos pins s σ H _ I h) fun us s1 ⟨vs,H1,I1,r1,q1⟩=>?_) hs rfl))
 obtain⟨c,xs,e,hx,q⟩:=q1
 subst e
 obtain⟨u1,rfl,ru1⟩:=vals1 r1
 cases ru1
 obtain⟨its,rv,tp,_⟩:=I1.tuple hx
 refine yG (show s1.heap.IsTuple c its.toArray from tp) fun h' e1 j1 kp=>?_
 have en:s1.heap.objs.size+1≠s1.heap.objs.size:=R6 (Te _)
 refine We e1 ⟨_,_,_,_,H1,rfl,I1.kept (t':=s1.toks) kp,yt (a:=c) en,⟨⟨_,e1⟩,j1⟩,fun b hb=>?_,q⟩
 have hle:s1.heap.objs.size<=b:=by
  simp only[Ri,RL,or_false] at hb
  rcases hb with rfl | rfl
  ·exact Tq _
  ·exact PX _
 exact I1.Ea hle (I1.hok.fresh hle)
theorem An {K:Qu} {a D:Addr} {xs:List V} {g:TG} {tt:TT} {te:TE} {H1:Hp} {Q:Hp->Prop} {σ0:St} (Pv:Nat->List V->St->Hp->Prop) (h0:Pv 0 [] σ0 (upd H1 D (.lst [])))
  (hl:∀ i zs σ H,i<=xs.length->Pv i zs σ H->SqL K H a xs/\H D=some (.lst zs))
  (hs:∀ i zs x p σ H,xs[i]? = some x->H p=none->Pv i zs σ H->g (.ref p) σ (upd H p (.tup [.int (i:Int),x])) fun σ3 H3=>tt σ3 H3 fun c H4=>if c=true then te σ3 H4 fun v H5=>H5 D=some (.lst zs)/\zs.length < sizeLine/\Pv (i+1) (zs++[v]) σ3 (upd H5 D (.lst (zs++[v]))) else Pv (i+1) zs σ3 H4)
  (hd:∀ zs σ H,Pv xs.length zs σ H->Q H):gA D σ0 (Itn K a) g tt te H1 Q:=by
 refine⟨fun i m zs σ H=>m=xs.length - i/\i<=xs.length/\Pv i zs σ H,⟨xs.length,by simp,QB _,h0⟩,?_⟩
 rintro i m zs σ H ⟨rfl,hi,p⟩
 obtain⟨q1,qD⟩:=hl i zs σ H hi p
 refine⟨qD,?_⟩
 by_cases hlt:i < xs.length
 ·refine .inr ⟨⟨xs,xs[i],q1,by simp [hlt]⟩,Pv (i+1),fun zs' σ' H' p'=>⟨xs.length - (i+1),by lia,rfl,hlt,p'⟩,fun v H' y=>?_⟩
  obtain⟨pp,x,hp,rfl,hx,rfl⟩:=y
  exact hs i zs x pp σ _ (hx xs q1) hp p
 ·have e:i=xs.length:=by lia
  subst e
  exact .inl ⟨⟨xs,q1,PX _⟩,hd zs σ H p⟩
theorem kJ {K:Qu} {a D:Addr} {xs:List V} {g:TG} {tt:TT} {te:TE} {H1:Hp} {Q:Hp->Prop} {σ0:St} (Pv:Nat->List V->St->Hp->Prop) (h0:Pv 0 [] σ0 (upd H1 D (.lst [])))
  (hl:∀ i zs σ H,i<=xs.length->Pv i zs σ H->SqT K H a xs/\H D=some (.lst zs))
  (hs:∀ i zs x p σ H,xs[i]? = some x->H p=none->Pv i zs σ H->g (.ref p) σ (upd H p (.tup [.int (i:Int),x])) fun σ3 H3=>tt σ3 H3 fun c H4=>if c=true then te σ3 H4 fun v H5=>H5 D=some (.lst zs)/\zs.length < sizeLine/\Pv (i+1) (zs++[v]) σ3 (upd H5 D (.lst (zs++[v]))) else Pv (i+1) zs σ3 H4)
  (hd:∀ zs σ H,Pv xs.length zs σ H->Q H):gA D σ0 (Itm K a) g tt te H1 Q:=by
 refine⟨fun i m zs σ H=>m=xs.length - i/\i<=xs.length/\Pv i zs σ H,⟨xs.length,by simp,QB _,h0⟩,?_⟩
 rintro i m zs σ H ⟨rfl,hi,p⟩
 obtain⟨q1,qD⟩:=hl i zs σ H hi p
 refine⟨qD,?_⟩
 by_cases hlt:i < xs.length
 ·refine .inr ⟨⟨xs,xs[i],q1,by simp [hlt]⟩,Pv (i+1),fun zs' σ' H' p'=>⟨xs.length - (i+1),by lia,rfl,hlt,p'⟩,fun v H' y=>?_⟩
  obtain⟨pp,x,hp,rfl,hx,rfl⟩:=y
  exact hs i zs x pp σ _ (hx xs q1) hp p
 ·have e:i=xs.length:=by lia
  subst e
  exact .inl ⟨⟨xs,q1,rfl⟩,hd zs σ H p⟩
end L2
namespace L2
open PySem PySem.Spec PyProof.Rows
section
variable {X:Cx}
inductive Cv (x:V) (vs:List V) (H:Hp) (Q:VK):Prop where
 | mk (l:Addr) (ns:List Int) (k:Int) (j:Nat) (z0:x = .ref l) (z1:vs=[.int k]) (z2:H l=some (.lst (ns.map V.int))) (z3:ns[j]? = some k) (z4:(∀ i < j,ns[i]?≠some k)) (z5:Q (.int (j:Int)) H):Cv  x vs H Q
def GX:V->List V->Hp->VK->Prop:=fun x vs H Q=>Cv  x vs H Q
theorem J2 {ns:List Int} {us:List Value} (r:Vals (ns.map V.int) us) {i:Nat} {u:Value} (h:us[i]? = some u):∃ n t,ns[i]? = some n/\u = .int n t:=by
 have hl:=r.length
 rw[Py] at hl
 have hi:i < us.length:=(List.getElem?_eq_some_iff.mp h).1
 have hn:ns[i]? = some ns[i]:=PJ (by lia)
 obtain⟨w,hw,rw'⟩:=r.get (i:=i) (x:=.int ns[i]) (by rw[Qn,hn]; rfl)
 rw[h] at hw
 cases hw
 obtain⟨t,rfl⟩:=rw'
 exact⟨_,t,hn,rfl⟩
theorem wX:MtM X "list.index" GX:=by
 intro pins s σ H x vs v us Q I rx rv h
 obtain⟨l,ns,k,j,rfl,rfl,hH,hj,hno,q⟩:=h
 cases rx
 obtain⟨u1,rfl,r1⟩:=rv.one
 obtain⟨t,rfl⟩:=r1
 obtain⟨z,its,n,r,hl,e⟩:=I.JT hH
 have hjn:j < ns.length:=(List.getElem?_eq_some_iff.mp hj).1
 rw[Py] at hl
 rw[Uw,Py] at z
 have at_:∀ (i:Nat) (hi:i < its.length),∃ t,its[i] = .int (ns.getD i 0) t:=fun i hi=>by
  obtain⟨m,t,h1,h2⟩:=J2 r (PJ hi)
  exact⟨t,by rw[h2,PL,h1]; rfl⟩
 refine Ue F.slot_list_index ⟨_,e,rfl⟩ F.entry_list_index (F.args_list_index_2 _ _)
  (MeetsSeq.list_index l its.toArray n (.int k t) (isInt k) (fun y hy=>?_) j (by rw[Qe]; lia) (by lia) ?_ (fun i hi hlt=>?_)) ⟨e,⟨.int (j:Int),H,I.kept (t':=s.toks+1) (fun _ _ q=>q),⟨_,rfl⟩,q⟩⟩
 ·have hy':y∈its:=by simpa using hy
  obtain⟨i,hi,rfl⟩:=RX hy'
  obtain⟨t',et⟩:=at_ i hi
  rw[et]
  exact MeetsSeq.EqGives.int _ k _ t
 ·obtain⟨t',et⟩:=at_ j (by lia)
  rw[Tr,et,PL,hj]
  show isInt k (.int k t')=true
  simp [isInt]
 ·rw[Qe] at hi
  obtain⟨t',et⟩:=at_ i hi
  rw[Tr,et]
  have hn:ns[i]? = some ns[i]:=PJ (by lia)
  have:=hno i hlt
  rw[PL,hn]
  rw[hn] at this
  show isInt k (.int ns[i] t')=false
  simp [isInt]
  exact fun z=>this (by rw[z])
end
end L2
namespace L2
open PySem PySem.Spec PyProof.Rows
end L2
namespace L2
open PySem PySem.Spec PyProof.Rows
section
variable {X:Cx}
end
end L2
namespace L2
open PySem PySem.Spec PyProof.Rows
section
variable {prog:Qx} {w:QG} {A:QK} {R:Xd->PB->Prop} {s:PB} {elt t0 i0 t1 i1:Expr} {scope:Vi} {pos:Vo} {it acc:Value} {env:Env}
end
section
variable {X:Cx} {elt t0 i0 t1 i1:Expr} {scope:Vi} {pos:Vo} {L F:List Rx} {cap:List Nat} {wi wi1:TI} {g g1:TG} {te:TE}
end
end L2
namespace L2
open PySem PySem.Spec PyProof.Rows
def yw (ta:TA):TE:=fun σ H Q=>ta σ H fun vs H1=>∃ n:Nat,vs=[.int (n:Int)]/\n<=1000/\∀ l,H1 l=none->Q (.ref l) (upd H1 l (.lst (((P0 n).map fun i:Nat=>(i:Int)).map V.int)))
theorem yf {n:Nat} {acc:Array Value} (h:ItemsOf (fun i v=>∃ t,v = .int (0+(i:Int) * 1) t) acc n):Vals (((P0 n).map fun i:Nat=>(i:Int)).map V.int) acc.toList:=by
 have key:∀ (m:Nat) (us:List Value),us.length=m->(∀ (j:Nat) (v:Value),us[j]? = some v->∃ t,v = .int (j:Int) t)->Vals (((P0 m).map fun i:Nat=>(i:Int)).map V.int) us:=by
  intro m
  induction m with
  | zero =>
   intro us hl _
   rw[List.length_eq_zero_iff.mp hl]
   exact .nil
  | succ m ih =>
   intro us hl hj
   rw[SM,PQ,PQ]
   have hm:m < us.length:=by lia
   have e:us=us.take m++[us[m]]:=by
    rw[List.take_append_getElem hm,List.take_of_length_le (by lia)]
   rw[e]
   have h1:=ih (us.take m) (by rw[Ql]; lia) fun j v hv=>by
    rw[List.getElem?_take] at hv
    split at hv
    ·exact hj j v hv
    ·cases hv
   obtain⟨t,ht⟩:=hj m us[m] (PJ hm)
   exact h1.append (.cons ⟨t,ht⟩ .nil)
 refine key n acc.toList (by rw[Qw]; exact h.1) fun j v hv=>?_
 obtain⟨t,ht⟩:=h.2 j v (by rw[← QW]; exact hv)
 exact⟨t,by rw[ht]; congr 1; lia⟩
theorem rB {X:Cx} {e:Expr} {te:TA} {p1 p2 q1 q2:Vo} (hc:X.calm=true) (hg1:Gl X "list") (hm1:X.mg "list" = none) (hg2:Gl X "range") (hm2:X.mg "range" = none) (ha:PA X [e] te)
  (hb1:Q5 "list" = some (.type "list"):=by decide+kernel) (hb2:Q5 "range" = some (.type "range"):=by decide+kernel)
  (he1:Qz [.Call (.Name "range" p2) [e] [] q2] X.env=(false,Tc (.Call (.Name "range" p2) [e] [] q2) X.env)::Qz [] X.env:=by rfl) (hp1:(Uq q1 (Qz [] X.env)).any (·.1)=false:=by rfl)
  (he2:Qz [e] X.env=(false,Tc e X.env)::Qz [] X.env:=by rfl) (hp2:(Uq q2 (Qz [] X.env)).any (·.1)=false:=by rfl) :
  PE X (.Call (.Name "list" p1) [.Call (.Name "range" p2) [e] [] q2] [] q1) (yw te):=by
 intro pins s σ H Q I h
 refine Sv (fU I hg1 hm1 hb1 ?_ (by decide) (by decide))
 refine Q9 ?_ he1 hp1
 rw[he1]
 refine (show Qd _ _ (Ye ((false,Tc (.Call (.Name "range" p2) [e] [] q2) X.env)::Uq q1 (Qz [] X.env))) _ _ s from Xg ?_)
 refine Sv (fU I hg2 hm2 hb2 ?_ (by decide) (by decide))
 refine Q9 (thn (ha q2 pins s σ H _ I h) fun us s1 ⟨vs,H1,I1,r1,q⟩=>?_) he2 hp2
 obtain⟨n,rfl,hn,hQ⟩:=q
 obtain⟨u,rfl,ru⟩:=vals1 r1
 obtain⟨t,rfl⟩:=ru
 refine call_range_1 ?_
 refine (show Qd _ _ (Ye []) _ _ _ from Xx ?_)
 have I2:Inv X pins σ H1 { s1 with heap:=s1.heap.push { cls:=.type "range",data:=.fields #[.int 0 s1.toks,.int (n:Int) t,.int 1 (s1.toks+1)] },toks:=s1.toks+1+1 }:=I1.kept fun b o e=>Pz _ e
 refine call_list_range (n:=n) (I1.ok.hd hc) (IsRange.new ..) (small_one (by decide) (by decide) (by lia) (by lia)) (by rw[rangeSize_one]; split <;> lia) (by lia) fun h' tk acc c hk hD hI=>?_
 refine⟨.ref _,_,I2.laid (t':=tk) (o:=.lst (((P0 n).map fun i:Nat=>(i:Int)).map V.int)) hk (PX _) ⟨?_,acc.toList,c,yf hI,?_⟩,rfl,hQ _ (I2.hok.fresh (PX _))⟩
 ·rw[Py,Py,Qs]
  exact Q6 hn (by decide)
 ·rw[Array.toArray_toList]
  exact hD
section
variable {X:Cx}
end
end L2
namespace L2
open PySem PySem.Spec PyProof.Rows
end L2
namespace L2
open PySem PySem.Spec PyProof.Rows
section
variable {prog:Qx} {w:QG} {A:QK} {E:Value->PB->Prop} {s:PB}
end
section
variable {X:Cx}
end
end L2
namespace L2
open PySem PySem.Spec PyProof.Rows
section
variable {X:Cx} {elt t0 i0 t1 i1:Expr} {scope:Vi} {pos:Vo} {L F:List Rx} {cap:List Nat} {wi wi1:TI} {g g1:TG} {te:TE}
end
end L2
namespace L2
open PySem PySem.Spec PyProof.Rows
section
variable {X:Cx} {tg:Expr}
end
end L2
namespace L2
open PySem PySem.Spec PyProof.Rows
section
variable {X:Cx} {elt tg iter:Expr} {ifs:List Expr} {scope:Vi} {pos:Vo} {x0:Rx} {L F:List Rx} {cap:List Nat} {wi:TI} {g:TG} {tt:TT} {te:TE}
end
end L2
namespace L2
open PySem PySem.Spec PyProof.Rows
end L2
namespace L2
open PySem PySem.Spec PyProof.Rows
section
variable {X:Cx}
end
end L2
namespace L2
open PySem PySem.Spec PyProof.Rows
section
variable {X:Cx}
end
end L2
namespace L2
open PySem PySem.Spec PyProof.Rows
section
variable {prog:Qx} {w:QG} {A:QK} {R:Xd->PB->Prop} {E:Value->PB->Prop} {s:PB}
end
section
variable {X:Cx} {k:Nat}
end
end L2
namespace L2
open PySem PySem.Spec PyProof.Rows PySem.W
section
variable {prog:Qx} {w:QG} {A:QK} {E:Value->PB->Prop} {κ:Vx} {it:Array Keyed} {s:PB}
end
theorem Ae:∀ (l:List (Addr × List Int)) (us:List Value),Vals (l.map fun p=>V.ref p.1) us->us=l.map fun p=>QS p.1
 | [],_,z=>by cases z; rfl
 | p::l,_,z=>by
  cases z with
  | cons e t =>
   cases e
   rw[Ae l _ t]
   rfl
section
variable {X:Cx}
end
end L2
namespace L2
open PySem PySem.Spec PyProof.Rows
section
variable {X:Cx} {k:Nat}
end
end L2
namespace L2
open PySem PySem.Spec PyProof.Rows
end L2
namespace L2
open PySem PySem.Spec PyProof.Rows
section
variable {prog:Qx} {w:QG} {A:QK} {R:Xd->PB->Prop} {E:Value->PB->Prop} {s:PB}
end
section
variable {X:Cx}
end
end L2
namespace L2
open PySem PySem.W PyProof.Rows
def im (it:Array Keyed) (l:List Nat):Array Keyed:=(l.map (kas_item it)).toArray
section
variable (prog:Qx) (w:QG) (A:QK) (E:Value->PB->Prop) (κ:Vx) (it:Array Keyed) (s:PB)
end
section
variable {prog:Qx} {w:QG} {A:QK} {E:Value->PB->Prop} {κ:Vx} {it:Array Keyed} {s:PB}
end
section
variable (o:Nat->Nat->Bool) (N:Nat)
end
section
variable {prog:Qx} {w:QG} {A:QK} {E:Value->PB->Prop} {κ:Vx} {it:Array Keyed} {s:PB} {o:Nat->Nat->Bool} {N:Nat}
end
section
variable {prog:Qx} {w:QG} {A:QK} {E:Value->PB->Prop} {κ:Vx} {it:Array Keyed} {s:PB} {o:Nat->Nat->Bool} {N:Nat}
end
section
variable {prog:Qx} {w:QG} {A:QK} {E:Value->PB->Prop} {κ:Vx} {it:Array Keyed} {s:PB} {o:Nat->Nat->Bool} {N:Nat}
end
def cO:Nat->List (List Nat)
 | 0=>[[]]
 | n+1=>cO n++(cO n).map (·++[n])
end L2
namespace L2
open PySem PySem.Spec PyProof.Rows PySem.W PySem.SeqAt
open AutoSeq1 (wpAny_loadPart')
open MeetsSeq MeetsSeq2 MeetsSeq3
theorem jW:∀ {vs:List Value} {ns:List Int} {i:Nat} {n:Int},Rh vs ns->ns[i]? = some n->∃ t,vs[i]? = some (.int n t)
 | _,_,i,_,.nil,h=>by simp at h
 | _,_,0,_,.cons m t r,h=>by
  cases h
  exact⟨t,rfl⟩
 | _,_,i+1,n,.cons m t r,h=>by
  obtain⟨t',e⟩:=jW (i:=i) r (by simpa using h)
  exact⟨t',by simpa using e⟩
section
variable {prog:Qx} {w:QG} {A:QK} {E:Value->PB->Prop} {s:PB}
def qg (h h':Rb) (a:Addr):Prop:=∀ b o,b≠a->h.get? b=some o->h'.get? b=some o
theorem gJ:∀ ns:List Int,HT.lexLt ns ns=false
 | []=>rfl
 | a::r=>by rw[HT.iK,if_pos rfl]; exact gJ r
end
section
variable {X:Cx} {k:Nat}
theorem zB {ps:List (Addr × List Int)}:∀ pm:List Nat,(∀ i∈pm,i < ps.length)->Vals (pm.map fun i=>V.ref (ps.getD i (0,[])).1) (pm.map fun i=>(ps.map fun p=>QS p.1).getD i QZ)
 | [],_=>.nil
 | i::pm,h=>by
  have hi:=h i Qa
  refine .cons ?_ (zB pm fun j hj=>h j (Qg _ hj))
  show (ps.map fun p=>QS p.1).getD i QZ = .ref (ps.getD i (0,[])).1
  simp [hi]
end
end L2
namespace L2
open PySem PySem.Spec PyProof.Rows
structure Km (z p q i1 i2 i3 l1 l2 l3:Addr):Prop where
 pz:p≠z
 qz:q≠z
 az:i1≠z
 bz:i2≠z
 cz:i3≠z
 pq:p≠q
 pa:p≠i1
 pb:p≠i2
 pc:p≠i3
 qa:q≠i1
 qb:q≠i2
 qc:q≠i3
 ab:i1≠i2
 ac:i1≠i3
 bc:i2≠i3
 xz:l1≠z
 yz:l2≠z
 vz:l3≠z
 xq:l1≠q
 yq:l2≠q
 vq:l3≠q
 ya:l2≠i1
 va:l3≠i1
 vb:l3≠i2
theorem En {n c d e:Nat} (hc:c < n) (hd:d < n) (he:e < n):Km (n+5) (n+3) (n+4) n (n+1) (n+2) c d e:=by
 constructor <;> (refine (fun (h:¬ @Eq Nat _ _)=>h) ?_) <;> lia
abbrev iw (h:Rb) (p:Addr) (a b c:Value):Prop:=h.get? p=some { cls:=.type "tuple",data:=.seq #[a,b,c] }
theorem oM (a b c:Value):checkTypeCall "zip" ⟨[a,b,c],[]⟩=pure ():=by kernel_rfl
theorem qi (a b c:Value):XM "zip.__new__" ⟨[.type "zip",a,b,c],[]⟩=pure ():=by kernel_rfl
theorem jK (a b c d:Value):VF "object.__init__" ⟨[a,b,c,d],[]⟩:=by
 have e:=Wi (id:="object.__init__") (n:=['_','_','t','i','n','i','_','_']) (o:=['t','c','e','j','b','o']) (by kernel_rfl) F.owner_object
 unfold VF
 rw[e]
 kernel_rfl
section
variable {prog:Qx} {w:QG} {A:QK} {E:Value->PB->Prop} {s:PB}
theorem di {T:Addr} {a b c x:Value} {k:Nat} {Q:Unit->PB->Prop} (hT:iw s.heap T a b c)
  (h:∀ h',h'.get? T=some { cls:=.type "tuple",data:=.seq ((#[a,b,c]:Array Value).setIfInBounds k x) }->Sq T s.heap h'->Q () { s with heap:=h' }) :
  Qd (Qt prog w) A (XC T (·.setIfInBounds k x)) Q E s:=by
 refine Va hT rfl (h _ ?_ (Ro ..))
 rw[Q8 _ hT rfl]
 simp [RN]
theorem J9 {z p q i1 i2 i3 l1 l2 l3:Addr} {k:Nat} {xs ys vs:Array Value} {x y v a b c:Value} {Q:Option Value->PB->Prop} (D:Km z p q i1 i2 i3 l1 l2 l3)
  (hz:Ul s.heap z p q .none) (hp:iw s.heap p (.ref i1) (.ref i2) (.ref i3)) (hq:iw s.heap q a b c) (j1:s.heap.IsListIter i1 l1 k) (j2:s.heap.IsTupleIter i2 l2 k) (j3:s.heap.IsTupleIter i3 l3 k) (t1:s.heap.IsList l1 xs) (t2:s.heap.IsTuple l2 ys) (t3:s.heap.IsTuple l3 vs)
  (hx:xs[k]? = some x) (hy:ys[k]? = some y) (hv:vs[k]? = some v)
  (hQ:∀ h',Ul h' z p q (RJ s.heap.objs.size)->iw h' q x y v->h'.IsListIter i1 l1 (k+1)->h'.IsTupleIter i2 l2 (k+1)->h'.IsTupleIter i3 l3 (k+1)->iw h' s.heap.objs.size x y v->h'.objs.size=s.heap.objs.size+1 →
   (∀ c o,c≠z->c≠q->c≠i1->c≠i2->c≠i3->s.heap.get? c=some o->h'.get? c=some o)->Q (some (.ref s.heap.objs.size)) { s with heap:=h' }):Qd (Qt prog w) A (Th (.ref z)) Q E s:=by
 have hT:s.TypeIs (.ref z) "zip":=⟨_,hz,rfl⟩; unfold Th
 refine Px (S7 (Q3 (name:=Sg "__next__") hT Tn (Ra Tn hT Wv ?_ (Wh _))))
 show Qd _ _ (W6 (.ref z) 2 >>= _) _ _ _; refine Px (QX hz rfl (x:=.bool false) rfl ?_)
 show Qd _ _ (W6 (.ref z) 3 >>= _) _ _ _; refine Px (QX hz rfl (x:=.ref p) rfl ?_); refine Px (Rf hp rfl ?_)
 show Qd _ _ (Q4 (.ref z) >>= _) _ _ _; refine Px ?_; unfold Q4
 refine Px (QX hz rfl (x:=.none) rfl (PK ?_)); simp only[if_true]; refine Px (Uv ?_); refine Px (QX hz rfl (x:=.ref q) rfl ?_)
 refine Px (RG hz (by simp) fun h1 z1 b1=>?_); replace z1:Ul h1 z p q .ellipsis:=z1
 refine Px ?_; simp only[Wr,WN,Vc,Vl]; refine Px (Px (Uo ?_))
 show Qd _ _ (QV (.ref i1) >>= _) _ _ _
 refine Px (wpAny_nextOf_list_item (cU j1 b1 D.az) (lE t1 b1 D.xz) hx fun h2 u1 b2=>PK ?_)
 have q2:iw h2 q a b c:=(b2.2 _ D.qa).trans ((b1.2 _ D.qz).trans hq); refine Px (Rf q2 rfl ?_); refine Px (di q2 fun h3 q3 b3=>?_)
 replace q3:iw h3 q x b c:=q3; refine Px (Uc (PK ?_)); refine Px (Px (Uo ?_))
 show Qd _ _ (QV (.ref i2) >>= _) _ _ _
 refine Px (nM (cX (cX (cX j2 b1 D.bz) b2 D.ab.symm) b3 D.qb.symm) (ik (ik (ik t2 b1 D.yz) b2 D.ya) b3 D.yq) hy fun h4 u2 b4=>PK ?_)
 have q4:iw h4 q x b c:=(b4.2 _ D.qb).trans q3; refine Px (Rf q4 rfl ?_); refine Px (di q4 fun h5 q5 b5=>?_)
 replace q5:iw h5 q x y c:=q5; refine Px (Uc (PK ?_)); refine Px (Px (Uo ?_))
 show Qd _ _ (QV (.ref i3) >>= _) _ _ _
 have j35:h5.IsTupleIter i3 l3 k:=cX (cX (cX (cX (cX j3 b1 D.cz) b2 D.ac.symm) b3 D.qc.symm) b4 D.bc.symm) b5 D.qc.symm
 have t35:h5.IsTuple l3 vs:=ik (ik (ik (ik (ik t3 b1 D.vz) b2 D.va) b3 D.vq) b4 D.vb) b5 D.vq
 refine Px (nM j35 t35 hv fun h6 u3 b6=>PK ?_)
 have q6:iw h6 q x y c:=(b6.2 _ D.qc).trans q5; refine Px (Rf q6 rfl ?_); refine Px (di q6 fun h7 q7 b7=>?_)
 replace q7:iw h7 q x y v:=q7; refine Px (Uc (PK (PK ?_))); refine Px (Rf q7 rfl ?_); refine Px (wpAny_newTuple ?_)
 have sz:h7.objs.size=s.heap.objs.size:=by rw[b7.1,b6.1,b5.1,b4.1,b3.1,b2.1,b1.1]
 have z7:Ul h7 z p q .ellipsis:=(b7.2 _ D.qz.symm).trans ((b6.2 _ D.cz.symm).trans ((b5.2 _ D.qz.symm).trans ((b4.2 _ D.bz.symm).trans ((b3.2 _ D.qz.symm).trans ((b2.2 _ D.az.symm).trans z1)))))
 have kp:∀ c o,c≠z->c≠q->c≠i1->c≠i2->c≠i3->s.heap.get? c=some o->h7.get? c=some o:=fun c o c1 c2 c3 c4 c5 e=>(b7.2 c c2).trans ((b6.2 c c5).trans ((b5.2 c c2).trans ((b4.2 c c4).trans ((b3.2 c c2).trans ((b2.2 c c3).trans ((b1.2 c c1).trans e))))))
 have u17:h7.IsListIter i1 l1 (k+1):=cU (cU (cU (cU (cU u1 b3 D.qa.symm) b4 D.ab) b5 D.qa.symm) b6 D.ac) b7 D.qa.symm
 have u27:h7.IsTupleIter i2 l2 (k+1):=cX (cX (cX u2 b5 D.qb.symm) b6 D.bc) b7 D.qb.symm
 have u37:h7.IsTupleIter i3 l3 (k+1):=cX u3 b7 D.qc.symm
 have zl:z < h7.objs.size:=Qf z7
 show Qd _ _ (SX (.ref z) (.ref h7.objs.size) >>= _) _ _ _; refine Px ?_; unfold SX
 have z8:Ul (h7.push { cls:=.type "tuple",data:=.seq #[x,y,v] }) z p q .ellipsis:=Pz _ z7
 refine Px (RG z8 (by simp) fun h9 z9 b9=>?_); replace z9:Ul h9 z p q (RJ h7.objs.size):=z9
 refine RG z9 (by simp) fun h10 z10 b10=>?_; replace z10:Ul h10 z p q (RJ h7.objs.size):=z10
 have up:∀ c o,c≠z->h7.get? c=some o->h10.get? c=some o:=fun c o c1 e=>(b10.2 c c1).trans ((b9.2 c c1).trans (Pz _ e))
 have t10:iw h10 h7.objs.size x y v:=(b10.2 _ (R6 zl)).trans ((b9.2 _ (R6 zl)).trans (PN _ rfl))
 have s10:h10.objs.size=h7.objs.size+1:=by rw[b10.1,b9.1,Q7]
 rw[sz] at z10 t10 s10; refine PK ⟨_,rfl,?_⟩
 show Qd _ _ _ _ _ _
 rw[sz]
 exact PK (hQ h10 z10 (up _ _ D.qz q7) (by obtain⟨o,e,r⟩:=u17; exact⟨o,up _ o D.az e,r⟩) (by obtain⟨o,e,r⟩:=u27; exact⟨o,up _ o D.bz e,r⟩) (by obtain⟨o,e,r⟩:=u37; exact⟨o,up _ o D.cz e,r⟩) t10 s10 fun c o c1 c2 c3 c4 c5 e=>up c o c1 (kp c o c1 c2 c3 c4 c5 e))
theorem Iw {z p q i1 i2 i3 l1 l2 l3:Addr} {k:Nat} {xs:Array Value} {a b c:Value} {Q:Fin->PB->Prop} (hh:A.handled=none) (D:Km z p q i1 i2 i3 l1 l2 l3)
  (hz:Ul s.heap z p q .none) (hp:iw s.heap p (.ref i1) (.ref i2) (.ref i3)) (j1:s.heap.IsListIter i1 l1 k) (t1:s.heap.IsList l1 xs)
  (hx:xs[k]? = none) (hE:∀ h' e,(∀ c o,c≠z->c≠q->c≠i1->c≠i2->c≠i3->s.heap.get? c=some o->h'.get? c=some o)->(∃ o,h'.get? e=some o/\o.cls = .type "StopIteration")->E (.ref e) { s with heap:=h' }) :
  Qd (Qt prog w) A (Ss.«zip.__next__» ⟨[.ref z],[]⟩) Q E s:=by
 show Qd _ _ (W6 (.ref z) 2 >>= _) _ _ _; refine Px (QX hz rfl (x:=.bool false) rfl ?_)
 show Qd _ _ (W6 (.ref z) 3 >>= _) _ _ _; refine Px (QX hz rfl (x:=.ref p) rfl ?_); refine Px (Rf hp rfl ?_)
 show Qd _ _ (Q4 (.ref z) >>= _) _ _ _; refine Px ?_; unfold Q4
 refine Px (QX hz rfl (x:=.none) rfl (PK ?_)); simp only[if_true]; refine Px (Uv ?_); refine Px (QX hz rfl (x:=.ref q) rfl ?_)
 refine Px (RG hz (by simp) fun h1 z1 b1=>?_); replace z1:Ul h1 z p q .ellipsis:=z1
 refine Px ?_; simp only[Wr,WN,Vc,Vl]; refine Px (Px (Uo ?_))
 show Qd _ _ (QV (.ref i1) >>= _) _ _ _
 refine Px (wpAny_nextOf_list_end hh (cU j1 b1 D.az) (lE t1 b1 D.xz) hx fun h2 e b2 he=>?_)
 obtain⟨oe,ho,hc⟩:=he
 have z2:Ul h2 z p q .ellipsis:=b2 _ _ D.az.symm z1
 have ez:e≠z:=fun u=>by subst u; rw[z2] at ho; cases ho; simp at hc
 exact RG z2 (by simp) fun h3 _ b3=>hE h3 e (fun c o c1 _ c3 _ _ u=>(b3.2 c c1).trans (b2 _ _ c3 ((b1.2 c c1).trans u))) ⟨oe,(b3.2 e ez).trans ho,hc⟩
theorem MP {z p q i1 i2 i3 l1 l2 l3:Addr} {k:Nat} {xs:Array Value} {Q:Option Value->PB->Prop} (hh:A.handled=none) (D:Km z p q i1 i2 i3 l1 l2 l3)
  (hz:Ul s.heap z p q .none) (hp:iw s.heap p (.ref i1) (.ref i2) (.ref i3)) (j1:s.heap.IsListIter i1 l1 k) (t1:s.heap.IsList l1 xs)
  (hx:xs[k]? = none) (hQ:∀ h',(∀ c o,c≠z->c≠q->c≠i1->c≠i2->c≠i3->s.heap.get? c=some o->h'.get? c=some o)->Q none { s with heap:=h' }):Qd (Qt prog w) A (Th (.ref z)) Q E s:=by
 have hT:s.TypeIs (.ref z) "zip":=⟨_,hz,rfl⟩; unfold Th
 refine Px (S7 (Q3 (name:=Sg "__next__") hT Tn (Ra Tn hT Wv (Iw (a:=.none) (b:=.none) (c:=.none) hh D hz hp j1 t1 hx fun h' e kp he=>?_) (Wh _))))
 obtain⟨o,ho,hc⟩:=he
 exact Px (TQ (T:="StopIteration") (b:=true) ⟨o,ho,hc⟩ V5 (PK (hQ _ kp)))
abbrev t3A (h:Rb) (l:Addr):Rb:=h.push { cls:=.type "list_iterator",data:=.fields #[.ref l,.int 0 0] }
abbrev t3B (h:Rb) (l t:Addr):Rb:=zA (t3A h l) t
abbrev t3C (h:Rb) (l t u:Addr):Rb:=zA (t3B h l t) u
abbrev t3D (h:Rb) (l t u:Addr):Rb:=(t3C h l t u).push { cls:=.type "tuple",data:=.seq #[.ref h.objs.size,.ref (t3A h l).objs.size,.ref (t3B h l t).objs.size] }
abbrev t3E (h:Rb) (l t u:Addr):Rb:=(t3D h l t u).push { cls:=.type "tuple",data:=.seq #[.none,.none,.none] }
abbrev t3F (h:Rb) (l t u:Addr):Rb:=(t3E h l t u).push { cls:=.type "zip",data:=.fields #[.none,.bool false,.bool false,.ref (t3C h l t u).objs.size,.ref (t3D h l t u).objs.size] }
theorem Kr (l1 l2 l3:Addr) (xs ys vs:Array Value) :
  Meets (Ss.«zip.__new__» ⟨[.type "zip",.ref l1,.ref l2,.ref l3],[]⟩) (fun _ R s=>s.heap.IsList l1 xs/\s.heap.IsTuple l2 ys/\s.heap.IsTuple l3 vs/\R (.ok (.ret (.ref (t3E s.heap l1 l2 l3).objs.size))) { s with heap:=t3F s.heap l1 l2 l3 }) :=
 .of_wp fun prog w A R s h=>by
  obtain⟨hp,g,d,tk,os⟩:=s; obtain⟨a1,a2,a3,h⟩:=h; have hsub:=sub_zip
  have T1:Heap.IsList (Wf ⟨hp,g,d,tk,os⟩) l1 xs:=a1
  have T2:Xv (Wf ⟨hp.push { cls:=.type "list_iterator",data:=.fields #[.ref l1,.int 0 0] },g,d,tk,os⟩) l2 ys:=by
   obtain⟨o,e,r⟩:=a2
   exact⟨o,Pz _ e,r⟩
  have T3:Xv (Wf ⟨(hp.push { cls:=.type "list_iterator",data:=.fields #[.ref l1,.int 0 0] }).push { cls:=.type "tuple_iterator",data:=.fields #[.ref l2,.int 0 0] },g,d,tk,os⟩) l3 vs:=by
   obtain⟨o,e,r⟩:=a3
   exact⟨o,Pz _ (Pz _ e),r⟩
  wp_walk using Ut T1,Ud T2,Ud T3
  exact⟨_,rfl,h⟩
theorem JF {l1 l2 l3:Addr} {xs ys vs:Array Value} {Q:Value->PB->Prop} (t1:s.heap.IsList l1 xs) (t2:s.heap.IsTuple l2 ys) (t3:s.heap.IsTuple l3 vs)
  (h:∀ h',Ul h' (s.heap.objs.size+5) (s.heap.objs.size+3) (s.heap.objs.size+4) .none->iw h' (s.heap.objs.size+3) (.ref s.heap.objs.size) (.ref (s.heap.objs.size+1)) (.ref (s.heap.objs.size+2))->iw h' (s.heap.objs.size+4) .none .none .none →
   h'.IsListIter s.heap.objs.size l1 0->h'.IsTupleIter (s.heap.objs.size+1) l2 0->h'.IsTupleIter (s.heap.objs.size+2) l3 0->(∀ c o,s.heap.get? c=some o->h'.get? c=some o)->Q (.ref (s.heap.objs.size+5)) { s with heap:=h' }) :
  Qd (Qt prog w) A (call (.type "zip") [.ref l1,.ref l2,.ref l3]) Q E s:=by
 refine Xm F.called_zip (by decide) (oM _ _ _) (qi _ _ _) (fun obj=>jK obj _ _ _) F.entry_zip_new (Kr l1 l2 l3 xs ys vs) ⟨t1,t2,t3,?_⟩
 have y1:(t3A s.heap l1).objs.size=s.heap.objs.size+1:=Q7 ..
 have y2:(t3B s.heap l1 l2).objs.size=s.heap.objs.size+2:=by rw[Q7,y1]
 have y3:(t3C s.heap l1 l2 l3).objs.size=s.heap.objs.size+3:=by rw[Q7,y2]
 have y4:(t3D s.heap l1 l2 l3).objs.size=s.heap.objs.size+4:=by rw[Q7,y3]
 have y5:(t3E s.heap l1 l2 l3).objs.size=s.heap.objs.size+5:=by rw[Q7,y4]
 have w6:(t3F s.heap l1 l2 l3).get? (t3E s.heap l1 l2 l3).objs.size=some _:=PN _ rfl
 have w5:(t3F s.heap l1 l2 l3).get? (t3D s.heap l1 l2 l3).objs.size=some _:=Pz _ (PN _ rfl)
 have w4:(t3F s.heap l1 l2 l3).get? (t3C s.heap l1 l2 l3).objs.size=some _:=Pz _ (Pz _ (PN _ rfl))
 have w3:(t3F s.heap l1 l2 l3).get? (t3B s.heap l1 l2).objs.size=some _:=Pz _ (Pz _ (Pz _ (PN _ rfl)))
 have w2:(t3F s.heap l1 l2 l3).get? (t3A s.heap l1).objs.size=some _:=Pz _ (Pz _ (Pz _ (Pz _ (PN _ rfl))))
 have w1:(t3F s.heap l1 l2 l3).get? s.heap.objs.size=some _:=Pz _ (Pz _ (Pz _ (Pz _ (Pz _ (PN _ rfl)))))
 show _/\_
 rw[y3,y4,y5] at w6; rw[y4] at w5; rw[y1,y2,y3] at w4; rw[y2] at w3; rw[y1] at w2; rw[y5]
 exact⟨⟨_,w6,rfl⟩,h _ w6 w4 w5 ⟨_,w1,rfl,rfl⟩ ⟨_,w2,rfl,rfl⟩ ⟨_,w3,rfl,rfl⟩ fun c o u=>Pz _ (Pz _ (Pz _ (Pz _ (Pz _ (Pz _ u)))))⟩
end
def It3 (K : Qu) (a b c : Addr) : It :=
  ⟨fun i H => ∃ xs ys vs x y v, SqL K H a xs ∧ SqT K H b ys ∧ SqT K H c vs ∧ xs[i]? = some x ∧ ys[i]? = some y ∧ vs[i]? = some v,
   fun i H w H' => ∃ p x y v, H p = none ∧ w = .ref p ∧ (∀ xs, SqL K H a xs → xs[i]? = some x) ∧ (∀ ys, SqT K H b ys → ys[i]? = some y) ∧ (∀ vs, SqT K H c vs → vs[i]? = some v) ∧ H' = upd H p (.tup [x, y, v]),
   fun i H => ∃ xs, SqL K H a xs ∧ xs.length ≤ i⟩
def tn3 (z p q i1 i2 i3 a b c:Addr) (i:Nat) (h:Rb):Prop:=Ul h z p q .none/\iw h p (.ref i1) (.ref i2) (.ref i3)/\(∃ u v w,iw h q u v w)/\h.IsListIter i1 a i/\h.IsTupleIter i2 b i/\h.IsTupleIter i3 c i
theorem Jm {P:Qx} {w:QG} {K:Qu} {elts:List Expr} {x1} {pos:Vo} {z p q i1 i2 i3 a b c:Addr} (D:Km z p q i1 i2 i3 a b c) :
  Turn P w K (.Tuple elts x1 pos) (It3 K a b c) [z,p,q,i1,i2,i3] z (tn3 z p q i1 i2 i3 a b c) where
 mem:=by simp
 obj:=fun i h st e he=>by
  obtain⟨hz,hp,⟨u,v,t,hq⟩,⟨o1,e1,_,d1⟩,⟨o2,e2,_,d2⟩,⟨o3,e3,_,d3⟩⟩:=st
  simp only[Ri,RL,or_false] at he
  rcases he with rfl | rfl | rfl | rfl | rfl | rfl
  ·exact⟨_,hz,fun v z=>by cases z⟩
  ·exact⟨_,hp,fun v z=>by cases z⟩
  ·exact⟨_,hq,fun v z=>by cases z⟩
  ·exact⟨_,e1,fun v z=>by rw[d1] at z; cases z⟩
  ·exact⟨_,e2,fun v z=>by rw[d2] at z; cases z⟩
  ·exact⟨_,e3,fun v z=>by rw[d3] at z; cases z⟩
 keep:=fun i h h' st k=>by
  obtain⟨hz,hp,⟨u,v,t,hq⟩,⟨o1,e1,r1⟩,⟨o2,e2,r2⟩,⟨o3,e3,r3⟩⟩:=st
  exact⟨k z (by simp) _ hz,k p (by simp) _ hp,⟨u,v,t,k q (by simp) _ hq⟩,⟨o1,k i1 (by simp) _ e1,r1⟩,⟨o2,k i2 (by simp) _ e2,r2⟩,⟨o3,k i3 (by simp) _ e3,r3⟩⟩
 item:=by
  intro X hP hw hK hc i pins s σ H E I hf st hg
  subst hP hw hK
  obtain⟨xs,ys,vs,x,y,v,hx,hy,hv,ex,ey,ev⟩:=hg
  obtain⟨hz,hp,⟨u1,u2,u3,hq⟩,j1,j2,j3⟩:=st
  obtain⟨its,rv,tp,_⟩:=I.list hx
  obtain⟨its2,rv2,tp2,_⟩:=I.tuple hy
  obtain⟨its3,rv3,tp3,_⟩:=I.tuple hv
  obtain⟨xu,hxu,rx⟩:=rv.get ex
  obtain⟨yu,hyu,ry⟩:=rv2.get ey
  obtain⟨vu,hvu,rw3⟩:=rv3.get ev
  refine J9 D hz hp hq j1 j2 j3 (show s.heap.IsList a its.toArray from tp.isList) (show s.heap.IsTuple b its2.toArray from tp2) (show s.heap.IsTuple c its3.toArray from tp3) (x:=xu) (y:=yu) (v:=vu) (by simpa using hxu) (by simpa using hyu) (by simpa using hvu) fun h' z' q' w1 w2 w3 t' _ kp=>⟨_,rfl,?_⟩
  refine wpAny_letOwnedTupleGo_zip z' fun h2 z2 b2=>?_
  have lt:∀ {c o},s.heap.get? c=some o->c < s.heap.objs.size:=fun e=>Qf e
  have zne:s.heap.objs.size≠z:=R6 (lt hz)
  have hfr:H s.heap.objs.size=none:=I.fresh
  have I1:Inv X pins σ (upd H s.heap.objs.size (.tup [x,y,v])) { s with heap:=s.heap.push { cls:=.type "tuple",data:=.seq #[xu,yu,vu] } } :=
   I.laid (t':=s.toks) (fun _ _ e=>Pz _ e) (PX _) ⟨by show 3<=sizeLine; decide,[xu,yu,vu],.cons rx (.cons ry (.cons rw3 .nil)),⟨_,PN _ rfl,rfl,_,rfl⟩⟩
  have blt:∀ c∈[z,p,q,i1,i2,i3],c < s.heap.objs.size:=fun c hc=>by
   obtain⟨_,e1,_⟩:=j1
   obtain⟨_,e2,_⟩:=j2
   obtain⟨_,e3,_⟩:=j3
   simp only[Ri,RL,or_false] at hc
   rcases hc with rfl | rfl | rfl | rfl | rfl | rfl
   ·exact lt hz
   ·exact lt hp
   ·exact lt hq
   ·exact lt e1
   ·exact lt e2
   ·exact lt e3
  have ff:∀ c∈[z,p,q,i1,i2,i3],uO X pins (upd H s.heap.objs.size (.tup [x,y,v])) c:=fun c hc=>by
   obtain⟨f0,fr⟩:=hf c hc
   exact⟨by rw[bx (Qv (blt c hc))]; exact f0,fr⟩
  have kk:∀ c o,c ∉ [z,q,i1,i2,i3]->(s.heap.push { cls:=.type "tuple",data:=.seq #[xu,yu,vu] }).get? c=some o->h2.get? c=some o:=fun c o hc e=>by
   have c1:c≠z:=fun h=>hc (by simp [h])
   refine (b2.2 c c1).trans ?_
   rcases VB e with⟨ec,eo⟩ | e'
   ·subst ec
    subst eo
    exact t'
   ·exact kp c o c1 (fun h=>hc (by simp [h])) (fun h=>hc (by simp [h])) (fun h=>hc (by simp [h])) (fun h=>hc (by simp [h])) e'
  have I2:Inv X pins σ (upd H s.heap.objs.size (.tup [x,y,v])) { s with heap:=h2 } :=
   Inv.iB (s:={ s with heap:=s.heap.push { cls:=.type "tuple",data:=.seq #[xu,yu,vu] } }) (h':=h2) (t':=s.toks) (ch:=[z,q,i1,i2,i3]) I1 kk fun c hc=>ff c (by
    simp only[Ri] at hc ⊢
    rcases hc with h | h | h | h | h
    ·exact .inl h
    ·exact .inr (.inr (.inl h))
    ·exact .inr (.inr (.inr (.inl h)))
    ·exact .inr (.inr (.inr (.inr (.inl h))))
    ·exact .inr (.inr (.inr (.inr (.inr h)))))
  refine⟨.ref s.heap.objs.size,_,I2,rfl,⟨_,x,y,v,hfr,rfl,fun zs hzs=>?_,fun zs hzs=>?_,fun zs hzs=>?_,rfl⟩,⟨z2,(b2.2 _ D.pz).trans (kp _ _ D.pz D.pq D.pa D.pb D.pc hp),⟨_,_,_,(b2.2 _ D.qz).trans q'⟩,cU w1 b2 D.az,cX w2 b2 D.bz,cX w3 b2 D.cz⟩,fun c hc=>(ff c hc).1⟩
  ·rw[I.mz hzs hx]; exact ex
  ·rw[I.gC hzs hy]; exact ey
  ·rw[I.gC hzs hv]; exact ev
 done:=by
  intro X hP hw hK hc i pins s σ H E I hf st hg
  subst hP hw hK
  obtain⟨xs,hx,hend⟩:=hg
  obtain⟨hz,hp,⟨u1,u2,u3,hq⟩,j1,j2,j3⟩:=st
  obtain⟨its,rv,tp,_⟩:=I.list hx
  have l1:=rv.length
  refine MP (I.ok.hd hc) D hz hp j1 (show s.heap.IsList a its.toArray from tp.isList) (by simp; lia) fun h' kp=>⟨rfl,?_⟩
  exact I.iB (t':=s.toks) (ch:=[z,q,i1,i2,i3]) (fun c o hc e=>kp c o (fun h=>hc (by simp [h])) (fun h=>hc (by simp [h])) (fun h=>hc (by simp [h])) (fun h=>hc (by simp [h])) (fun h=>hc (by simp [h])) e)
   fun c hc=>hf c (by simp only[Ri] at hc ⊢; rcases hc with h | h | h | h | h; exact .inl h; exact .inr (.inr (.inl h)); exact .inr (.inr (.inr (.inl h))); exact .inr (.inr (.inr (.inr (.inl h)))); exact .inr (.inr (.inr (.inr (.inr h)))))
 self:=fun _ _ _ _ _ st h=>Wn st.1 h
def iZ3 (K:Qu) (ta:TA):TI:=fun σ H R=>ta σ H fun ws H1=>∃ a b c xs ys vs,ws=[.ref a,.ref b,.ref c]/\SqL K H1 a xs/\SqT K H1 b ys/\SqT K H1 c vs/\R (It3 K a b c) H1
theorem M9 {X:Cx} {elts:List Expr} {x1} {tpos:Vo} {a b c:Expr} {ta:TA} {p pos:Vo} (hg:Gl X "zip") (hm:X.mg "zip" = none) (ha:PA X [a,b,c] ta) (hs:Qz [a,b,c] X.env=[(false,Tc a X.env),(false,Tc b X.env),(false,Tc c X.env)]:=by rfl) (hs2:Qz [b,c] X.env=[(false,Tc b X.env),(false,Tc c X.env)]:=by rfl) :
  PI X (.Tuple elts x1 tpos) (.Call (.Name "zip" p) [a,b,c] [] pos) (iZ3 X.K ta):=by
 intro pins s σ H R I h
 refine Call_ (fU I hg hm boot_zip (Q9 (thn (ha pos pins s σ H _ I h) fun us s1 ⟨vs,H1,I1,r1,q1⟩=>?_) (by rw[hs,hs2]) (by rw[hs2]; rfl)))
 obtain⟨d1,d2,d3,xs,ys,ws,e,hx,hy,hv,q⟩:=q1
 subst e
 cases r1 with
 | cons ru1 r1 =>
 cases r1 with
 | cons ru2 r1 =>
 cases r1 with
 | cons ru3 r1 =>
 cases r1
 cases ru1
 cases ru2
 cases ru3
 obtain⟨its,_,tp,_⟩:=I1.list hx
 obtain⟨its2,_,tp2,_⟩:=I1.tuple hy
 obtain⟨its3,_,tp3,_⟩:=I1.tuple hv
 refine JF (show s1.heap.IsList d1 its.toArray from tp.isList) (show s1.heap.IsTuple d2 its2.toArray from tp2) (show s1.heap.IsTuple d3 its3.toArray from tp3) fun h' z' p' q' j1 j2 j3 kp=>?_
 have lc:d1 < s1.heap.objs.size:=by obtain⟨o,e,_⟩:=tp.isList; exact Qf e
 have ld:d2 < s1.heap.objs.size:=by obtain⟨o,e,_⟩:=tp2; exact Qf e
 have le:d3 < s1.heap.objs.size:=by obtain⟨o,e,_⟩:=tp3; exact Qf e
 have D:Km (s1.heap.objs.size+5) (s1.heap.objs.size+3) (s1.heap.objs.size+4) s1.heap.objs.size (s1.heap.objs.size+1) (s1.heap.objs.size+2) d1 d2 d3:=En lc ld le
 refine Wn z' ⟨_,_,_,_,H1,rfl,I1.kept (t':=s1.toks) kp,Jm D,⟨z',p',⟨_,_,_,q'⟩,j1,j2,j3⟩,fun e he=>?_,q⟩
 have hle:s1.heap.objs.size<=e:=by
  simp only[Ri,RL,or_false] at he
  rcases he with rfl | rfl | rfl | rfl | rfl | rfl <;> lia
 exact I1.Ea hle (I1.hok.fresh hle)
theorem Jc {K:Qu} {a b c D:Addr} {xs ys vs:List V} {g:TG} {tt:TT} {te:TE} {H1:Hp} {Q:Hp->Prop} {σ0:St} (hlen:xs.length=ys.length) (hlen2:xs.length=vs.length) (Pv:Nat->List V->St->Hp->Prop) (h0:Pv 0 [] σ0 (upd H1 D (.lst [])))
  (hl:∀ i zs σ H,i<=xs.length->Pv i zs σ H->SqL K H a xs/\SqT K H b ys/\SqT K H c vs/\H D=some (.lst zs))
  (hs:∀ i zs x y v p σ H,xs[i]? = some x->ys[i]? = some y->vs[i]? = some v->H p=none->Pv i zs σ H->g (.ref p) σ (upd H p (.tup [x,y,v])) fun σ3 H3=>tt σ3 H3 fun c H4=>if c=true then te σ3 H4 fun v H5=>H5 D=some (.lst zs)/\zs.length < sizeLine/\Pv (i+1) (zs++[v]) σ3 (upd H5 D (.lst (zs++[v]))) else Pv (i+1) zs σ3 H4)
  (hd:∀ zs σ H,Pv xs.length zs σ H->Q H):gA D σ0 (It3 K a b c) g tt te H1 Q:=by
 refine⟨fun i m zs σ H=>m=xs.length - i/\i<=xs.length/\Pv i zs σ H,⟨xs.length,by simp,QB _,h0⟩,?_⟩
 rintro i m zs σ H ⟨rfl,hi,p⟩
 obtain⟨q1,q2,q3,qD⟩:=hl i zs σ H hi p
 refine⟨qD,?_⟩
 by_cases hlt:i < xs.length
 ·have hlt2:i < ys.length:=by lia
  have hlt3:i < vs.length:=by lia
  refine .inr ⟨⟨xs,ys,vs,xs[i],ys[i],vs[i],q1,q2,q3,by simp [hlt],by simp [hlt2],by simp [hlt3]⟩,Pv (i+1),fun zs' σ' H' p'=>⟨xs.length - (i+1),by lia,rfl,hlt,p'⟩,fun v H' y=>?_⟩
  obtain⟨pp,x,y,v,hp,rfl,hx,hy,hv,rfl⟩:=y
  exact hs i zs x y v pp σ _ (hx xs q1) (hy ys q2) (hv vs q3) hp p
 ·have e:i=xs.length:=by lia
  subst e
  exact .inl ⟨⟨xs,q1,PX _⟩,hd zs σ H p⟩
end L2
namespace L2
open PySem PySem.Spec PyProof.Rows
section
variable {X:Cx}
def Br (K:Qu):R2:=fun x y H Q=>Ja K x y H Q∨∃ (a:Addr) (ns:List Int),x = .ref a/\y = .non/\SqT K H a (ns.map V.int)/\Q (.bl true) H
theorem Fv (hu:X.A.units < cLine):OpR X (Td .NotEq) (Br X.K):=by
 intro pins s σ H x y v u Q I rx ry h
 rcases h with h | ⟨a,ns,rfl,rfl,ha,q⟩
 ·exact Bb hu pins s σ H x y v u Q I rx ry h
 ·cases rx
  cases ry
  obtain⟨its,r1,p1,_⟩:=I.tuple ha
  exact SeqAt.RcNeAt.tuple_none (show s.heap.IsTuple a its.toArray from p1) hu X.prog X.w X.xe _ ⟨.bl true,H,I,rfl,q⟩
end
end L2
namespace L2
open PySem PySem.Spec PyProof.Rows
section
variable {κ:Type} [DecidableEq κ]
def iR (kvs:List (κ × V)) (k:κ):Option V:=(kvs.find? fun kv=>decide (kv.1=k)).map (·.2)
def putK (kvs:List (κ × V)) (k:κ) (v:V):List (κ × V) :=
 if (kvs.any fun kv=>decide (kv.1=k))=true then kvs.map (fun kv=>if kv.1=k then (kv.1,v) else kv) else kvs++[(k,v)]
theorem Fq {k:κ}:iR ([]:List (κ × V)) k=none:=rfl
theorem dH {p:κ × V} {r:List (κ × V)} {k:κ} (e:p.1=k):iR (p::r) k=some p.2:=by simp [iR,Vd,e]
theorem cZ {p:κ × V} {r:List (κ × V)} {k:κ} (e:¬ p.1=k):iR (p::r) k=iR r k:=by simp [iR,Vd,e]
theorem jN (k:κ):∀ kvs:List (κ × V),(kvs.any fun kv=>decide (kv.1=k))=(iR kvs k).isSome
 | []=>rfl
 | p::r=>by
  rw[Vu]
  by_cases e:p.1=k
  ·simp only[dH e,decide_eq_true e,Bool.true_or,Option.isSome_some]
  ·rw[cZ e,decide_eq_false e,W9]; exact jN k r
theorem wB (k j:κ) (y:V):∀ kvs:List (κ × V),iR (kvs.map fun kv=>if kv.1=k then (kv.1,y) else kv) j=(iR kvs j).map fun x=>if j=k then y else x
 | []=>rfl
 | p::r=>by
  have ih:=wB k j y r
  rw[QM]
  by_cases h:p.1=k
  ·rw[if_pos h]
   by_cases e:p.1=j
   ·rw[dH (p:=(p.1,y)) e,dH e,WM,if_pos (e.symm.trans h)]
   ·rw[cZ (p:=(p.1,y)) e,cZ e,ih]
  ·rw[if_neg h]
   by_cases e:p.1=j
   ·rw[dH (p:=p) e,dH e,WM,if_neg (fun z=>h (e.trans z))]
   ·rw[cZ (p:=p) e,cZ e,ih]
theorem sX (k j:κ) (y:V):∀ kvs:List (κ × V),iR kvs k=none->iR (kvs++[(k,y)]) j=if j=k then some y else iR kvs j
 | [],_=>by
  by_cases e:k=j
  ·rw[if_pos e.symm]; exact dH (p:=(k,y)) e
  ·rw[if_neg (fun z=>e z.symm)]; exact cZ (p:=(k,y)) e
 | p::r,hn=>by
  rw[List.cons_append]
  have hk:¬ p.1=k:=fun z=>by rw[dH z] at hn; cases hn
  rw[cZ hk] at hn
  have ih:=sX k j y r hn
  by_cases e:p.1=j
  ·rw[dH e,dH e,if_neg (fun z=>hk (e.trans z))]
  ·rw[cZ e,cZ e,ih]
theorem EY (kvs:List (κ × V)) (k j:κ) (y:V):iR (putK kvs k y) j=if j=k then some y else iR kvs j:=by
 unfold putK
 by_cases a:(kvs.any fun kv=>decide (kv.1=k))=true
 ·rw[if_pos a,wB]
  rw[jN] at a
  by_cases e:j=k
  ·obtain⟨x,hx⟩:=Option.isSome_iff_exists.mp a
   rw[if_pos e,e,hx,WM,if_pos rfl]
  ·rw[if_neg e]
   cases iR kvs j with
   | none=>rfl
   | some x=>rw[WM,if_neg e]
 ·rw[if_neg a]
  refine sX k j y kvs ?_
  rw[jN] at a
  cases q:iR kvs k with
  | none=>rfl
  | some x=>rw[q] at a; exact (a rfl).elim
theorem jq (kvs:List (κ × V)) (k:κ) (v:V):(putK kvs k v).length<=kvs.length+1:=by
 unfold putK
 split
 ·rw[Py]; lia
 ·rw[Qj,Qo,List.length_nil]; lia
theorem lX {kvs:List (κ × V)} {k:κ} (v:V) (h:iR kvs k=none):putK kvs k v=kvs++[(k,v)]:=by
 unfold putK
 rw[jN,h]
 exact if_neg (by decide)
theorem Di.mU {o:Option V} {u:Option Value} (r:Di o u):o.isSome=u.isSome:=by
 cases o with
 | none=>cases u with
  | none=>rfl
  | some _=>exact (show False from r).elim
 | some _=>cases u with
  | none=>exact (show False from r).elim
  | some _=>rfl
theorem KV.val {kvs:List (κ × V)} {vs:List (κ × Value)} (r:KV kvs vs) (k:κ):Di (iR kvs k) (Xi vs k):=by
 unfold KV at r
 induction r with
 | nil=>exact Uy
 | @cons p q ps qs h t ih =>
  obtain⟨h1,h2⟩:=h
  by_cases e:p.1=k
  ·have e':q.1=k:=h1.symm.trans e
   have b:Xi (q::qs) k=some q.2:=by simp [Xi,Vd,e']
   rw[dH e,b]; exact h2
  ·have e':¬ q.1=k:=fun z=>e (h1.trans z)
   have b:Xi (q::qs) k=Xi qs k:=by simp [Xi,Vd,e']
   rw[cZ e,b]; exact ih
theorem KV.any {kvs:List (κ × V)} {vs:List (κ × Value)} (r:KV kvs vs) (k:κ):(kvs.any fun kv=>decide (kv.1=k))=vs.any fun kv=>decide (kv.1=k):=by
 unfold KV at r
 induction r with
 | nil=>rfl
 | cons h t ih=>rw[Vu,Vu,ih,h.1]
theorem KV.repl {kvs:List (κ × V)} {vs:List (κ × Value)} (r:KV kvs vs) (k:κ) {y:V} {u:Value} (ry:RelV y u) :
  KV (kvs.map fun kv=>if kv.1=k then (kv.1,y) else kv) (vs.map fun kv=>if kv.1=k then (kv.1,u) else kv):=by
 unfold KV at r ⊢
 induction r with
 | nil=>exact .nil
 | @cons p q ps qs h t ih =>
  rw[QM,QM]
  refine .cons ?_ ih
  obtain⟨h1,h2⟩:=h
  by_cases e:p.1=k
  ·rw[if_pos e,if_pos (h1.symm.trans e)]; exact⟨h1,ry⟩
  ·rw[if_neg e,if_neg (fun z=>e (h1.trans z))]; exact⟨h1,h2⟩
theorem KV.put {kvs:List (κ × V)} {vs:List (κ × Value)} (r:KV kvs vs) (k:κ) {y:V} {u:Value} (ry:RelV y u):KV (putK kvs k y) (stored vs k u):=by
 unfold putK stored
 rw[r.any k]
 by_cases e:(vs.any fun kv=>decide (kv.1=k))=true
 ·rw[if_pos e,if_pos e]; exact r.repl k ry
 ·rw[if_neg e,if_neg e]; exact Paired.snoc r ⟨rfl,ry⟩
theorem KV.length {kvs:List (κ × V)} {vs:List (κ × Value)} (r:KV kvs vs):kvs.length=vs.length:=W7 r
end
theorem Gb {P:Qx} {w:QG} {k:Key} {u:Value} (r:RelV (kV k) u):(d7 P w).is k u=true:=by
 cases k with
 | inl i=>obtain⟨t,e⟩:=(show ∃ t,u=TY i t from r); subst e; exact vW P w i t
 | inr x=>obtain⟨t,e⟩:=(show ∃ t,u=Value.str x t from r); subst e; exact vB P w x t
theorem uh {P:Qx} {w:QG}:∀ {ks:List Key} {us:List Value},Vals (ks.map kV) us->ItemsAre (d7 P w) ks us
 | [],_,r=>by rw[Vk] at r; cases r; exact .nil
 | k::ks,_,r=>by
  rw[QM] at r
  cases r with
  | cons h t=>exact .cons (Gb h) (uh t)
abbrev KT (H:Hp):List (List Key × V)->List (List Key × Addr × Value)->Prop:=Paired fun p q=>p.1=q.1/\H q.2.1=some (.tup (p.1.map kV))/\RelV p.2 q.2.2
theorem KT.val {H:Hp} {kvs:List (List Key × V)} {xs:List (List Key × Addr × Value)} (r:KT H kvs xs) (k:List Key):Di (iR kvs k) ((atKey xs k).map (·.2)):=by
 induction r with
 | nil=>exact Uy
 | @cons p q ps qs h t ih =>
  obtain⟨h1,_,h2⟩:=h
  by_cases e:p.1=k
  ·have e':q.1=k:=h1.symm.trans e
   have b:atKey (q::qs) k=some q.2:=by simp [atKey,Vd,e']
   rw[dH e,b]; exact h2
  ·have e':¬ q.1=k:=fun z=>e (h1.trans z)
   have b:atKey (q::qs) k=atKey qs k:=by simp [atKey,Vd,e']
   rw[cZ e,b]; exact ih
theorem KT.repl {H:Hp} {kvs:List (List Key × V)} {xs:List (List Key × Addr × Value)} (r:KT H kvs xs) (k:List Key) {y:V} {u:Value} (ry:RelV y u) :
  KT H (kvs.map fun kv=>if kv.1=k then (kv.1,y) else kv) (xs.map (putAt k u)):=by
 induction r with
 | nil=>exact .nil
 | @cons p q ps qs h t ih =>
  rw[QM,QM]
  refine .cons ?_ ih
  obtain⟨h1,h2,h3⟩:=h
  unfold putAt
  by_cases e:p.1=k
  ·rw[if_pos e,if_pos (h1.symm.trans e)]; exact⟨h1,h2,ry⟩
  ·rw[if_neg e,if_neg (fun z=>e (h1.trans z))]; exact⟨h1,h2,h3⟩
theorem KT.put {H:Hp} {kvs:List (List Key × V)} {xs:List (List Key × Addr × Value)} (r:KT H kvs xs) (k:List Key) {b:Addr} {y:V} {u:Value} (hb:H b=some (.tup (k.map kV))) (ry:RelV y u) :
  KT H (putK kvs k y) (storedH xs k b u):=by
 have e:(kvs.any fun kv=>decide (kv.1=k))=(atKey xs k).isSome:=by
  rw[jN,(r.val k).mU,Option.isSome_map]
 unfold putK storedH
 rw[e]
 by_cases q:(atKey xs k).isSome=true
 ·rw[if_pos q,if_pos q]; exact r.repl k ry
 ·rw[if_neg q,if_neg q]; exact Paired.snoc r ⟨rfl,hb,ry⟩
theorem KT.keeps {H H':Hp} {kvs:List (List Key × V)} {xs:List (List Key × Addr × Value)} (r:KT H kvs xs) (ht:∀ b ys,H b=some (.tup ys)->H' b=some (.tup ys)):KT H' kvs xs :=
 Paired.NK r fun _ _ z=>⟨z.1,ht _ _ z.2.1,z.2.2⟩
section
variable {P:Qx} {w:QG} {H:Hp} {h:Rb} {a:Addr}
theorem LC {u:HO} (ok:HOk P w H h) (e:Rd H a u):eF P w H h a u:=e.ok ok
theorem Ei {kvs:List (Key × V)} (ok:HOk P w H h) (e:Rd H a (.dK kvs)):kvs.length<=sizeLine/\(a == Vg)=false/\∃ vs,KV kvs vs/\h.DictOf (d7 P w) a vs :=
 show eF P w H h a (.dK kvs) from LC ok e
theorem N5 {kvs:List (Key × V)} (ok:HOk P w H h) (e:H a=some (.dK kvs)):kvs.length<=sizeLine/\(a == Vg)=false/\∃ vs,KV kvs vs/\h.DictOf (d7 P w) a vs:=Ei ok (.inl e)
theorem tR {ks:List Key} (ok:HOk P w H h) (e:H a=some (.tup (ks.map kV))):(XD (d7 P w)).is h ks a:=by
 obtain⟨_,its,r,o,h1,h2,n,h3⟩:=(show eF P w H h a (.tup (ks.map kV)) from ok a _ e)
 exact⟨o,its.toArray,n,h1,h2,h3,by simpa using uh r⟩
theorem Gg {kvs:List (List Key × V)} (ok:HOk P w H h) (e:Rd H a (.dT kvs)):kvs.length<=sizeLine/\(a == Vg)=false ∧
  ∃ xs,KT H kvs xs/\h.DictOfH (XD (d7 P w)) a xs:=by
 obtain⟨z,y,xs,r,o,es,ep,h1,h2,h3,h4,h5⟩:=(show eF P w H h a (.dT kvs) from LC ok e)
 refine⟨z,y,xs,r,o,es,ep,h1,h2,h3,h4,fun x hx=>?_,h5⟩
 have all:∀ {l:List (List Key × V)} {m:List (List Key × Addr × Value)},KT H l m->∀ x∈m,(XD (d7 P w)).is h x.1 x.2.1:=by
  intro l m q
  induction q with
  | nil=>intro x hx; exact nomatch hx
  | @cons p q ps qs hq t ih =>
   intro x hx
   rcases List.mem_cons.mp hx with e | hx
   ·subst e
    exact tR ok (by rw[← hq.1]; exact hq.2.1)
   ·exact ih x hx
 exact all r x hx
theorem M4 {kvs:List (List Key × V)} (ok:HOk P w H h) (e:H a=some (.dT kvs)):kvs.length<=sizeLine/\(a == Vg)=false ∧
  ∃ xs,KT H kvs xs/\h.DictOfH (XD (d7 P w)) a xs:=Gg ok (.inl e)
end
def Dw (H:Hp) (a:Addr) (y:V) (r:Option V):Prop :=
 (∃ kvs k,Rd H a (.dK kvs)/\y=kV k/\r=iR kvs k)∨∃ kvs k b,Rd H a (.dT kvs)/\y = .ref b/\H b=some (.tup (k.map kV))/\r=iR kvs k
def Kh (H:Hp) (a:Addr) (y v:V) (H':Hp):Prop :=
 (∃ kvs k,H a=some (.dK kvs)/\y=kV k/\kvs.length < sizeLine/\H'=upd H a (.dK (putK kvs k v))) ∨
 ∃ kvs k b,H a=some (.dT kvs)/\y = .ref b/\H b=some (.tup (k.map kV))/\kvs.length < sizeLine/\H'=upd H a (.dT (putK kvs k v))
theorem Dw.t {H:Hp} {a b:Addr} {kvs:List (List Key × V)} {k:List Key} (e:H a=some (.dT kvs)) (eb:H b=some (.tup (k.map kV))):Dw H a (.ref b) (iR kvs k):=.inr ⟨kvs,k,b,.inl e,rfl,eb,rfl⟩
theorem Kh.t {H:Hp} {a b:Addr} {kvs:List (List Key × V)} {k:List Key} {v:V} (e:H a=some (.dT kvs)) (eb:H b=some (.tup (k.map kV))) (hl:kvs.length < sizeLine) :
  Kh H a (.ref b) v (upd H a (.dT (putK kvs k v))):=.inr ⟨kvs,k,b,e,rfl,eb,hl,rfl⟩
section
variable {X:Cx} {pins:List (Addr × Tv)} {σ:St} {H:Hp} {s:PB} {a:Addr} {y v:V} {u r:Value} {o:Option V} {A:QK} {E:Value->PB->Prop}
theorem Inv.big (I:Inv X pins σ H s):Vg < s.heap.objs.size:=by
 have h:QD < s.heap.objs.size:=(I.mod.glob.keeps I.bk).lt
 exact Nat.lt_trans (by decide) h
theorem Ax {Q:Value->PB->Prop} (hu:A.units+1 < cLine) (I:Inv X pins σ H s) (g:Dw H a y (some v)) (ry:RelV y u) (h:∀ w' s',Inv X pins σ H s'->RelV v w'->Q w' s') :
  Qd (Qt X.prog X.w) A (W3 (.ref a) u) Q E s:=by
 rcases g with⟨kvs,k,e,ey,l⟩ | ⟨kvs,k,b,e,ey,eb,l⟩
 ·subst ey
  obtain⟨z,hd,vs,rel,dd⟩:=Ei I.hok e
  obtain⟨w',hw,rw'⟩:=Di.some_of (v:=v) (o:=Xi vs k) (by rw[l]; exact rel.val k)
  exact wpAny_getItem_of (Gb ry) dd.mapOf hw (h w' _ (I.tok _) rw')
 ·subst ey
  cases (show u=QS b from ry)
  obtain⟨z,hd,xs,rel,dd⟩:=Gg I.hok e
  obtain⟨w',hw,rw'⟩:=Di.some_of (v:=v) (o:=(atKey xs k).map (·.2)) (by rw[l]; exact rel.val k)
  obtain⟨p,hp,hp2⟩:=Option.map_eq_some_iff.mp hw
  refine wpAny_getItem_heap (Xa hu) (tR I.hok eb) dd hp ?_
  rw[hp2]
  exact h w' _ (I.tok _) rw'
theorem JQ {Q:Value->PB->Prop} (hu:A.units+1 < cLine) (I:Inv X pins σ H s) (g:Dw H a y o) (ry:RelV y u) (h:∀ s',Inv X pins σ H s'->Q (.bool (!o.isSome)) s') :
  Qd (Qt X.prog X.w) A (Td .NotIn u (.ref a)) Q E s:=by
 rcases g with⟨kvs,k,e,ey,l⟩ | ⟨kvs,k,b,e,ey,eb,l⟩
 ·subst ey
  obtain⟨z,hd,vs,rel,dd⟩:=Ei I.hok e
  refine wpAny_notIn_of (Gb ry) hd dd.mapOf ?_
  rw[← (rel.val k).mU,← l]
  exact h _ (I.tok _)
 ·subst ey
  cases (show u=QS b from ry)
  obtain⟨z,hd,xs,rel,dd⟩:=Gg I.hok e
  refine wpAny_notIn_heap (Xa hu) (tR I.hok eb) hd dd ?_
  have q:=(rel.val k).mU
  rw[Option.isSome_map] at q
  rw[← q,← l]
  exact h _ (I.tok _)
theorem uF {h':Rb} {t':Nat} {ob:HO} (I:Inv X pins σ H s) (mu:Mut (H a)) (hs:Sq a s.heap h') (he:∃ q,h'.get? a=some q) (new:eF X.prog X.w (upd H a ob) h' a ob) :
  Inv X pins σ (upd H a ob) { s with heap:=h',toks:=t' } :=
 I.write (x:=a) (e:=a) mu (.inl rfl) (fun b q hb z=>(hs.2 b hb).trans z) he new
theorem Lr {P:Qx} {w:QG} {H':Hp} {h':Rb} {kvs:List (Key × V)} {vs:List (Key × Value)} (z:kvs.length<=sizeLine) (hd:(a == Vg)=false) (rel:KV kvs vs) (dd:h'.DictOf (d7 P w) a vs) :
  eF P w H' h' a (.dK kvs):=⟨z,hd,vs,rel,dd⟩
theorem zK {H':Hp} {Q:Unit->PB->Prop} (hu:A.units+1 < cLine) (I:Inv X pins σ H s) (g:Kh H a y v H') (ry:RelV y u) (rv:RelV v r) (h:∀ s',Inv X pins σ H' s'->Q () s') :
  Qd (Qt X.prog X.w) A (setItem (.ref a) u r) Q E s:=by
 rcases g with⟨kvs,k,e,ey,l,eH⟩ | ⟨kvs,k,b,e,ey,eb,l,eH⟩
 ·subst ey eH
  obtain⟨z,hd,vs,rel,dd⟩:=N5 I.hok e
  have hz:vs.length<=sizeLine:=by rw[← rel.length]; exact z
  have hl:(putK kvs k v).length<=sizeLine:=by have:=jq kvs k v; lia
  refine wpAny_setItem_pairs (hsz:=hz) (Gb ry) dd fun h' dd' hs=>h _ ?_
  have he:∃ q,h'.get? a=some q:=let ⟨q,_,_,hq,_⟩:=dd'; ⟨q,hq⟩
  exact uF I (by rw[e]; exact Uy) hs he (Lr hl hd (rel.put k rv) dd')
 ·subst ey eH
  cases (show u=QS b from ry)
  obtain⟨z,hd,xs,rel,dd⟩:=M4 I.hok e
  have hz:xs.length<=sizeLine:=by rw[← W7 rel]; exact z
  have hl:(putK kvs k v).length<=sizeLine:=by have:=jq kvs k v; lia
  refine wpAny_setItem_heap (hsz:=hz) (Xa hu) (tR I.hok eb) dd fun h' dd' hs=>h _ ?_
  obtain⟨q,es,ep,hq,h2,h3,h4,_,h5⟩:=dd'
  refine uF I (by rw[e]; exact Uy) hs ⟨q,hq⟩ ⟨hl,hd,_,(rel.put k eb rv).keeps fun c ys ec=>?_,q,es,ep,hq,h2,h3,h4,h5⟩
  rw[bx (KD ec e (fun z=>nomatch z))]
  exact ec
end
section
variable {X:Cx} {pins:List (Addr × Tv)} {σ:St} {H:Hp} {s:PB} {a:Addr} {kvs:List (Key × V)} {k:Key} {u:Value} {A:QK} {E:Value->PB->Prop}
end
def Oo (i:Expr):Prop:=∀ ov iv,X4 i false ov iv=operate [ov,iv] (W3 ov iv)
theorem JD {prog:Qx} {w:QG} {A:QK} {E:Value->PB->Prop} {s:PB} {env:Env} {value slice:Expr} {pos:Vo} {T id:String} {Q:Value->PB->Prop}
  (hl:typeLookup (.type T) "__getitem__" = pure (some (.builtin id))) (hs:Oo slice)
  (h:Qd (Qt prog w) A (Tc value env) (fun o s₁=>Qd (Qt prog w) A (Tc slice env) (fun i s₂=>s₂.TypeIs o T/\Qd (Qt prog w) A (W3 o i) Q E s₂) E s₁) E s) :
  Qd (Qt prog w) A (Tc (.Subscript value slice pos) env) Q E s:=by
 refine Subscript_ (SJ h (fun o s₁ h₁=>SJ h₁ (fun i s₂ h₂=>?_) fun _ _ x=>x) fun _ _ x=>x)
 obtain⟨hT,h₂⟩:=h₂
 unfold subscriptTail
 refine Px ?_
 rw[getitemInPython_of_ne hT.not_modules]
 refine Px (VD hT hl ?_)
 have fin:Qd (Qt prog w) A (X4 slice false o i) (fun r s₃=>Qd (Qt prog w) A (letTemporaryGo value o r >>= fun _=>pure r) Q E s₃) E s₂:=by
  rw[hs o i]
  exact wpAny_operating (SJ h₂ (fun r s₃ h₃=>Px (wpAny_letTemporaryGo (PK h₃))) fun _ _ x=>x)
 first
  | exact PK (Px fin)
  | exact Px (PK (Px fin))
  | exact Px fin
theorem vV {X:Cx} {pins:List (Addr × Tv)} {σ:St} {H:Hp} {s:PB} {a:Addr} {y:V} {o:Option V} (I:Inv X pins σ H s) (g:Dw H a y o):s.TypeIs (.ref a) "dict":=by
 rcases g with⟨kvs,k,e,_,_⟩ | ⟨kvs,k,b,e,_,_,_⟩
 ·obtain⟨_,_,vs,_,dd⟩:=Ei I.hok e
  exact dd.typeIs
 ·obtain⟨_,_,xs,_,dd⟩:=Gg I.hok e
  exact dd.typeIs
def Nu (td ty:TE):TE:=fun σ H Q=>td σ H fun x H1=>ty σ H1 fun y H2=>∃ a v,x = .ref a/\Dw H2 a y (some v)/\Q v H2
def Jx (ty td:TE):TE:=fun σ H Q=>ty σ H fun y H1=>td σ H1 fun x H2=>∃ a o,x = .ref a/\Dw H2 a y o/\Q (.bl (!o.isSome)) H2
def Nr (td ty tv:TE):TS:=fun D σ H=>tv σ H fun v H1=>td σ H1 fun x H2=>ty σ H2 fun y H3=>∃ a H4,x = .ref a/\Kh H3 a y v H4/\D.nx σ H4
section
variable {X:Cx} {o i e value:Expr} {pos pos' tpos:Vo} {td ty tv:TE}
theorem Jj (hu:X.A.units+1 < cLine) (ho:PE X o td) (hi:PE X i ty) (hs:Oo i):PE X (.Subscript o i pos) (Nu td ty):=by
 intro pins s σ H Q I h
 refine JD PySem.F.slot_dict_getitem.lookup hs (thn (ho pins s σ H _ I h) fun u s1 ⟨x,H1,I1,rx,q1⟩=>thn (hi pins s1 σ H1 _ I1 q1) fun iv s2 ⟨y,H2,I2,ry,a,v,ex,g,q2⟩=>?_)
 subst ex
 obtain rfl:u=QS a:=rx
 exact⟨vV I2 g,Ax hu I2 g ry fun w' s3 I3 rw'=>⟨v,H2,I3,rw',q2⟩⟩
theorem tY (hu:X.A.units+1 < cLine) (hi:PE X i ty) (ho:PE X o td):PC X .NotIn i o (Jx ty td):=by
 intro pins s σ H Q I h
 refine thn (hi pins s σ H _ I h) fun iv s1 ⟨y,H1,I1,ry,q1⟩=>thn (ho pins s1 σ H1 _ I1 q1) fun u s2 ⟨x,H2,I2,rx,a,ov,ex,g,q2⟩=>?_
 subst ex
 obtain rfl:u=QS a:=rx
 exact JQ hu I2 g ry fun s3 I3=>⟨.bl (!ov.isSome),H2,I3,rfl,q2⟩
theorem CV (hu:X.A.units+1 < cLine) (ho:PE X o td) (hi:PE X i ty) (hv:PE X value tv) (hs:swapsWith value (some (.Subscript o i pos')) pos.line X.env=pure false) :
  PS X (.Assign [.Subscript o i pos'] value pos) (Nr td ty tv):=by
 intro pins s σ H D I h
 refine wpAny_Assign_Subscript (thn (hv pins s σ H _ I h) fun r s1 ⟨v,H1,I1,rv,q1⟩=>thn (ho pins s1 σ H1 _ I1 q1) fun u s2 ⟨x,H2,I2,rx,q2⟩=>thn (hi pins s2 σ H2 _ I2 q2) fun iv s3 ⟨y,H3,I3,ry,a,H4,ex,g,q3⟩=>?_) hs
 subst ex
 obtain rfl:u=QS a:=rx
 exact zK hu I3 g ry rv fun s4 I4=>⟨σ,H4,I4,q3⟩
end
theorem v5 {P:Qx} {w:QG} {H:Hp} (h:Rb) (hb:Vg < h.objs.size):eF P w H (h.push { cls:=.type "dict",data:=.dict #[] }) h.objs.size (.dT []) :=
 ⟨QB _,beq_eq_false_iff_ne.mpr (TF (Qv hb)),[],.nil,_,#[],0,PN _ rfl,⟨rfl,rfl,rfl⟩,rfl,rfl,List.nodup_nil⟩
def Lb:TE:=fun _ H Q=>∀ p,H p=none->Q (.ref p) (upd H p (.dT []))
section
variable {X:Cx} {pos:Vo}
theorem DP:PE X (.Dict [] [] pos) Lb:=fun pins s σ H Q I h =>
 wpAny_Dict_empty ⟨.ref s.heap.objs.size,_,I.laid (a:=s.heap.objs.size) (o:=.dT []) (t':=s.toks) (fun _ _ q=>Pz _ q) (PX _) (v5 s.heap I.big),rfl,h _ (I.hok.fresh (PX _))⟩
end
def BP:List (TE × TE)->St->Hp->(List (V × V)->Hp->Prop)->Prop
 | [],_,H,Q=>Q [] H
 | (tk,tv)::r,σ,H,Q=>tk σ H fun x H1=>tv σ H1 fun y H2=>BP r σ H2 fun ps H3=>Q ((x,y)::ps) H3
abbrev VV:List (V × V)->List (Value × Value)->Prop:=Paired fun p q=>RelV p.1 q.1/\RelV p.2 q.2
def PPs (X:Cx) (pos:Vo) (keys:List (Option Expr)) (values:List Expr) (trs:List (TE × TE)):Prop :=
 ∀ (pins:List (Addr × Tv)) (s:PB) (σ:St) (H:Hp) (Q:List (V × V)->Hp->Prop),Inv X pins σ H s->BP trs σ H Q →
  Qd (Qt X.prog X.w) X.A (evalPairs (pairTrees keys values X.env pos)) (fun vs s'=>∃ ps H',Inv X pins σ H' s'/\VV ps vs/\Q ps H') X.xe s
theorem J5 {X:Cx} {pos:Vo}:PPs X pos [] [] []:=fun pins s σ H Q I h=>pairTrees_nil_walk ⟨[],H,I,.nil,h⟩
theorem wg {X:Cx} {pos:Vo} {k v:Expr} {ks:List (Option Expr)} {vs:List Expr} {tk tv:TE} {trs:List (TE × TE)} (hk:PE X k tk) (hv:PE X v tv) (hr:PPs X pos ks vs trs) :
  PPs X pos (some k::ks) (v::vs) ((tk,tv)::trs):=fun pins s σ H Q I h =>
 pairTrees_cons_walk (thn (hk pins s σ H _ I h) fun u s1 ⟨x,H1,I1,rx,q1⟩=>thn (hv pins s1 σ H1 _ I1 q1) fun w2 s2 ⟨y,H2,I2,ry,q2⟩ =>
  thn (hr pins s2 σ H2 _ I2 q2) fun ws s3 ⟨ps,H3,I3,rel,q3⟩=>⟨(x,y)::ps,H3,I3,.cons ⟨rx,ry⟩ rel,q3⟩)
section
variable {X:Cx} {pins:List (Addr × Tv)} {σ:St} {H:Hp} {s:PB} {a:Addr} {y d:V} {u r:Value} {o:Option V} {A:QK} {E:Value->PB->Prop}
end
section
variable {X:Cx} {o e f:Expr} {apos cpos:Vo} {td ty tx:TE}
end
section
variable {X:Cx} {pins:List (Addr × Tv)} {σ:St} {H:Hp} {s:PB} {a:Addr} {kvs:List (Key × V)} {A:QK} {E:Value->PB->Prop}
end
section
variable {X:Cx} {pins:List (Addr × Tv)} {σ:St} {H:Hp} {s:PB} {a:Addr} {y:V} {u:Value} {A:QK} {E:Value->PB->Prop}
end
end L2
namespace L2
open PySem PySem.Spec PyProof.Rows
theorem oF.um {k:Nat} {A:QK} (r:oF k A):A.units+1 < cLine:=by have:=r.un; lia
section
variable {X:Cx} {pins:List (Addr × Tv)} {σ:St} {H:Hp} {s:PB} {a b:Addr} {v:V} {r:Value} {A:QK} {E:Value->PB->Prop}
theorem BJ {kvs:List (List Key × V)} {k:List Key} {Q:Unit->PB->Prop} (hu:A.units < cLine) (I:Inv X pins σ H s) (e:H a=some (.dT kvs)) (eb:H b=some (.tup (k.map kV))) (l:kvs.length < sizeLine) (rv:RelV v r) (h:∀ s',Inv X pins σ (upd H a (.dT (putK kvs k v))) s'->Q () s') :
  Qd (Qt X.prog X.w) A (dictSet a (.ref b) r) Q E s:=by
 obtain⟨z,hd,xs,rel,dd⟩:=M4 I.hok e
 have hz:xs.length<=sizeLine:=by rw[← W7 rel]; exact z
 have hl:(putK kvs k v).length<=sizeLine:=by have:=jq kvs k v; lia
 refine wpAny_dictSet_heap (hsz:=hz) hu (tR I.hok eb) dd fun h' dd' hs=>h _ ?_
 obtain⟨q,es,ep,hq,h2,h3,h4,_,h5⟩:=dd'
 refine uF I (by rw[e]; exact Uy) hs ⟨q,hq⟩ ⟨hl,hd,_,(rel.put k eb rv).keeps fun c ys ec=>?_,q,es,ep,hq,h2,h3,h4,h5⟩
 rw[bx (KD ec e (fun z=>nomatch z))]
 exact ec
end
def Dd (p:Addr):List (V × V)->Hp->(Hp->Prop)->Prop
 | [],H,Q=>Q H
 | (x,y)::r,H,Q=>∃ kvs k b,H p=some (.dT kvs)/\x = .ref b/\H b=some (.tup (k.map kV))/\kvs.length < sizeLine/\Dd p r (upd H p (.dT (putK kvs k y))) Q
theorem Mx {X:Cx} {pins:List (Addr × Tv)} {σ:St} {p:Addr} {A:QK} {E:Value->PB->Prop} (hu:A.units < cLine) {Z:Hp->Prop} {Q:PUnit->PB->Prop} (hq:∀ H s,Inv X pins σ H s->Z H->Q PUnit.unit s) :
  ∀ {ps:List (V × V)} {vs:List (Value × Value)} {H:Hp} {s:PB},VV ps vs->Inv X pins σ H s->Dd p ps H Z->Qd (Qt X.prog X.w) A (storeAll p vs) Q E s:=by
 intro ps vs H s r
 induction r generalizing H s with
 | nil =>
  intro I t
  unfold storeAll
  rw[Vl]
  exact PK (hq _ _ I t)
 | @cons x y xs ys h t ih =>
  intro I q
  obtain⟨x1,x2⟩:=x
  obtain⟨y1,y2⟩:=y
  obtain⟨kvs,k,b,e,ex,eb,l,q⟩:=q
  subst ex
  cases (show y1=QS b from h.1)
  unfold storeAll
  rw[Vc]
  exact Px (Px (BJ hu I e eb l h.2 fun s' I'=>PK (ih I' q)))
def Ld (trs:List (TE × TE)):TE:=fun σ H Q=>∀ p,H p=none->BP trs σ (upd H p (.dT [])) fun ps H2=>Dd p ps H2 fun H3=>Q (.ref p) H3
theorem Fi {X:Cx} {pos:Vo} {keys:List (Option Expr)} {values:List Expr} {trs:List (TE × TE)} (hu:X.A.units < cLine) (h:PPs X pos keys values trs) (hall:keys.all (·.isSome)=true) (hl:keys.length=values.length) (h0:keys≠[])
  (h15:keys.length<=15):PE X (.Dict keys values pos) (Ld trs):=by
 intro pins s σ H Q I q
 have hn:=I.hok.fresh (PX s.heap.objs.size)
 have I1:=I.laid (a:=s.heap.objs.size) (o:=.dT []) (h':=s.heap.push { cls:=.type "dict",data:=.dict #[] }) (t':=s.toks) (fun _ _ q=>Pz _ q) (PX _) (v5 s.heap I.big)
 refine wpAny_Dict_any hall hl h0 h15 (thn (h pins _ σ _ _ I1 (q _ hn)) fun ws s2 ⟨ps,H2,I2,rel,q2⟩=>?_)
 exact Mx hu (fun H3 s3 I3 q3=>⟨.ref s.heap.objs.size,H3,I3,rfl,q3⟩) rel I2 q2
end L2
namespace L2
open PySem PySem.Spec PyProof.Rows PySem.W
section
variable {n:Nat} {o:Nat->Nat->Bool} {cmp:Nat->Nat->(Bool->PB->Prop)->PB->Prop} {s:PB}
def dZ (n:Nat) (p:Array Nat):Prop:=p.toList.Perm (P0 n)
theorem dZ.size {p:Array Nat} (h:dZ n p):p.size=n:=by
 have:=h.length_eq
 rw[Qs] at this
 exact this
theorem dZ.lt {p:Array Nat} (h:dZ n p) {i:Nat} (hi:i < n):p.getD i 0 < n:=by
 have hs:i < p.size:=by rw[h.size]; exact hi
 have:p.getD i 0∈p.toList:=by
  simp [Array.getD,hs]
 exact List.mem_range.mp (h.mem_iff.mp this)
theorem dZ.ne {p:Array Nat} (h:dZ n p) {i j:Nat} (hi:i < n) (hj:j < n) (e:i≠j):p.getD i 0≠p.getD j 0:=by
 have nd:p.toList.Nodup:=h.nodup_iff.mpr List.nodup_range
 have hs:i < p.toList.length:=by rw[Qw,h.size]; exact hi
 have hs':j < p.toList.length:=by rw[Qw,h.size]; exact hj
 intro z
 have a1:p.getD i 0=p.toList[i]:=by simp [Array.getD,show i < p.size by simpa using hs]
 have a2:p.getD j 0=p.toList[j]:=by simp [Array.getD,show j < p.size by simpa using hs']
 rw[a1,a2] at z
 exact e ((Wt nd).mp z)
def UpO (o:Nat->Nat->Bool) (p:Array Nat) (k:Nat):Prop:=∀ i j,i < j->j < k->o (p.getD i 0) (p.getD j 0)=true
def DnO (o:Nat->Nat->Bool) (p:Array Nat) (k:Nat):Prop:=∀ i j,i < j->j < k->o (p.getD j 0) (p.getD i 0)=true
variable (tr:∀ i j k,i < n->j < n->k < n->o i j=true->o j k=true->o i k=true) (tot:∀ i j,i < n->j < n->i≠j->o i j=false->o j i=true)
variable (hc:∀ i j,i < n->j < n->∀ C:Bool->PB->Prop,C (o i j) s->cmp i j C s)
include tr in
theorem UpO.succ {p:Array Nat} (hp:dZ n p) {k:Nat} (h1:1<=k) (hk:k < n) (h:UpO o p k) (e:o (p.getD (k - 1) 0) (p.getD k 0)=true):UpO o p (k+1):=by
 intro i j hij hj
 rcases Sh j k with h' | h'
 ·exact h i j hij h'
 ·have:j=k:=by lia
  subst this
  rcases Sh i (j - 1) with h2 | h2
  ·exact tr _ _ _ (hp.lt (by lia)) (hp.lt (by lia)) (hp.lt hk) (h i (j - 1) h2 (by lia)) e
  ·have:i=j - 1:=by lia
   subst this
   exact e
include tr in
theorem DnO.succ {p:Array Nat} (hp:dZ n p) {k:Nat} (h1:1<=k) (hk:k < n) (h:DnO o p k) (e:o (p.getD k 0) (p.getD (k - 1) 0)=true):DnO o p (k+1):=by
 intro i j hij hj
 rcases Sh j k with h' | h'
 ·exact h i j hij h'
 ·have:j=k:=by lia
  subst this
  rcases Sh i (j - 1) with h2 | h2
  ·exact tr _ _ _ (hp.lt hk) (hp.lt (by lia)) (hp.lt (by lia)) e (h i (j - 1) h2 (by lia))
  ·have:i=j - 1:=by lia
   subst this
   exact e
include tr tot hc in
theorem vy {p:Array Nat} (hp:dZ n p) {Q:Nat->PB->Prop}:∀ (f k:Nat),1<=k->k+f<=n->UpO o p k->(∀ m,k<=m->m<=k+f->UpO o p m->(m=k+f∨o (p.getD m 0) (p.getD (m - 1) 0)=true)->Q m s)->(kas_asc p f k).kasWp cmp Q s
 | 0,k,_,_,hu,h=>h k (PX _) (PX _) hu (.inl rfl)
 | f+1,k,h1,hk,hu,h=>by
  show cmp _ _ _ s
  refine hc _ _ (hp.lt (by lia)) (hp.lt (by lia)) _ ?_
  cases e:o (p.getD k 0) (p.getD (k - 1) 0) with
  | true =>
   show Tz cmp (if true=true then _ else _) Q s
   rw[if_pos rfl]
   exact h k (PX _) (by lia) hu (.inr e)
  | false =>
   show Tz cmp (if false=true then _ else _) Q s
   rw[if_neg Qc]
   refine vy hp f (k+1) (by lia) (by lia) (hu.succ tr hp h1 (by lia) (tot _ _ (hp.lt (by lia)) (hp.lt (by lia)) (hp.ne (by lia) (by lia) (by lia)) e)) fun m h2 h3 h4 h5=>h m (by lia) (by lia) h4 ?_
   rcases h5 with z | z
   ·exact .inl (by lia)
   ·exact .inr z
include tr tot hc in
theorem wF {p:Array Nat} (hp:dZ n p) {Q:Array Nat × Nat × Nat->PB->Prop}:∀ (f k:Nat),1<=k->k+f<=n->DnO o p k->(∀ m,k<=m->m<=k+f->DnO o p m->Q (p,m,0) s)->(kas_desc f p k 0).kasWp cmp Q s
 | 0,k,_,_,hu,h=>h k (PX _) (PX _) hu
 | f+1,k,h1,hk,hu,h=>by
  show cmp _ _ _ s
  refine hc _ _ (hp.lt (by lia)) (hp.lt (by lia)) _ ?_
  cases e:o (p.getD k 0) (p.getD (k - 1) 0) with
  | true =>
   show Tz cmp (if true=true then _ else _) Q s
   rw[if_pos rfl,if_neg (by decide)]
   exact wF hp f (k+1) (by lia) (by lia) (hu.succ tr hp h1 (by lia) e) fun m h2 h3 h4=>h m (by lia) (by lia) h4
  | false =>
   show Tz cmp (if false=true then _ else _) Q s
   rw[if_neg Qc]
   show cmp _ _ _ s
   refine hc _ _ (hp.lt (by lia)) (hp.lt (by lia)) _ ?_
   rw[tot _ _ (hp.lt (by lia)) (hp.lt (by lia)) (hp.ne (by lia) (by lia) (by lia)) e]
   show Tz cmp (if true=true then _ else _) Q s
   rw[if_pos rfl]
   exact h k (PX _) (by lia) hu
theorem nC {p q:Array Nat} {i j:Nat} (h:p[i]? = q[j]?):p.getD i 0=q.getD j 0:=by
 rw[RT,RT,h]
theorem Ef {p:Array Nat} (hp:dZ n p) (k:Nat):dZ n (kas_rev p 0 k):=by
 have:=mirror_perm p 0 k ((k - 0) / 2)
 exact (Array.perm_iff_toList_perm.mp this).trans hp
theorem Ht {p:Array Nat} {k:Nat} (hk:k<=p.size) (i:Nat):(kas_rev p 0 k).getD i 0=if i < k then p.getD (k - 1 - i) 0 else p.getD i 0:=by
 have e:=getElem?_mirror_all (xs:=p) (i:=0) hk i
 by_cases h:i < k
 ·rw[if_pos ⟨QB _,h⟩] at e
  rw[if_pos h]
  exact nC (e.trans (by rw[Nat.zero_add]))
 ·rw[if_neg (fun z=>h z.2)] at e
  rw[if_neg h]
  exact nC e
theorem K1 {p:Array Nat} (hp:dZ n p) {k:Nat} (hk:k<=n) (h:DnO o p k):UpO o (kas_rev p 0 k) k:=by
 intro i j hij hj
 rw[Ht (by rw[hp.size]; exact hk),Ht (by rw[hp.size]; exact hk),if_pos (by lia),if_pos hj]
 exact h (k - 1 - j) (k - 1 - i) (by lia) (by lia)
include tr tot hc in
theorem Fl {p:Array Nat} (hp:dZ n p) {k:Nat} (h1:1<=k) (hk:k<=n) (h:DnO o p k) {Q:Nat × Array Nat->PB->Prop} (hq:∀ m p',dZ n p'->1<=m->m<=n->UpO o p' m->Q (m,p') s):(kas_tail3 k n p).kasWp cmp Q s:=by
 unfold kas_tail3
 rw[VJ]
 have hp':=Ef hp k
 exact vy tr tot hc hp' (n - k) k h1 (by lia) (K1 hp hk h) fun m h2 h3 h4 _=>hq m _ hp' (by lia) (by lia) h4
include tr tot hc in
theorem Ba (h2:2<=n) {p:Array Nat} (hp:dZ n p) {Q:Nat × Array Nat->PB->Prop} (hq:∀ m p',dZ n p'->1<=m->m<=n->UpO o p' m->Q (m,p') s):(kas_count n p).kasWp cmp Q s:=by
 unfold kas_count
 rw[VJ]
 refine vy tr tot hc hp (n - 1) 1 (PX _) (by lia) (fun i j hij hj=>by lia) fun m h3 h4 h5 h6=>?_
 show Tz cmp (if (m == n)=true then _ else _) Q s
 by_cases e:(m == n)=true
 ·rw[if_pos e]
  exact hq m p hp h3 (by lia) h5
 ·rw[if_neg e]
  have mn:m < n:=by
   have:¬ m=n:=by simpa using e
   lia
  by_cases g:m > 1
  ·rw[if_pos g]
   show cmp _ _ _ s
   refine hc _ _ (hp.lt (by lia)) (hp.lt (by lia)) _ ?_
   rw[h5 0 (m - 1) (by lia) (by lia)]
   show Tz cmp (if true=true then _ else _) Q s
   rw[if_pos rfl]
   exact hq m p hp h3 (by lia) h5
  ·rw[if_neg g]
   have m1:m=1:=by lia
   subst m1
   have z:o (p.getD 1 0) (p.getD 0 0)=true:=by
    rcases h6 with z | z
    ·lia
    ·exact z
   unfold kas_descPart
   rw[VJ]
   refine wF tr tot hc hp (n - 2) 2 (by lia) (by lia) (fun i j hij hj=>?_) fun m h7 h8 h9=>?_
   ·have a1:i=0:=by lia
    have a2:j=1:=by lia
    subst a1 a2
    exact z
   ·show Tz cmp (if 0 > 0 then _ else _) Q s
    rw[if_neg (by decide)]
    exact Fl tr tot hc hp (by lia) (by lia) h9 hq
include tr tot hc in
theorem mO {p:Array Nat} (hp:dZ n p) {k:Nat} (hk:k < n) (hu:UpO o p k) {Q:Nat->PB->Prop} (hq:∀ l,l<=k->(∀ i < l,o (p.getD i 0) (p.getD k 0)=true)->(∀ i,l<=i->i < k->o (p.getD k 0) (p.getD i 0)=true)->Q l s) :
  ∀ (f l r:Nat),l<=r->r<=k->r<=l+f->(∀ i < l,o (p.getD i 0) (p.getD k 0)=true)->(∀ i,r<=i->i < k->o (p.getD k 0) (p.getD i 0)=true)->(kas_place p k f l r).kasWp cmp Q s
 | 0,l,r,h1,h2,h3,a,b=>hq l (by lia) a fun i h4 h5=>b i (by lia) h5
 | f+1,l,r,h1,h2,h3,a,b=>by
  unfold kas_place
  by_cases g:l ≥ r
  ·rw[if_pos g]
   exact hq l (by lia) a fun i h4 h5=>b i (by lia) h5
  ·rw[if_neg g]
   show cmp _ _ _ s
   have hm:(l+r) / 2 < r:=by lia
   have hm':l<=(l+r) / 2:=by lia
   generalize (l+r) / 2=md at *
   refine hc _ _ (hp.lt hk) (hp.lt (by lia)) _ ?_
   cases e:o (p.getD k 0) (p.getD md 0) with
   | true =>
    show Tz cmp (if true=true then _ else _) Q s
    rw[if_pos rfl]
    refine mO hp hk hu hq f l md hm' (by lia) (by lia) a fun i h4 h5=>?_
    rcases Sh md i with h6 | h6
    ·exact tr _ _ _ (hp.lt hk) (hp.lt (by lia)) (hp.lt (by lia)) e (hu md i h6 h5)
    ·have:i=md:=by lia
     subst this
     exact e
   | false =>
    show Tz cmp (if false=true then _ else _) Q s
    rw[if_neg Qc]
    have e':=tot _ _ (hp.lt hk) (hp.lt (by lia)) (hp.ne hk (by lia) (by lia)) e
    refine mO hp hk hu hq f (md+1) r hm h2 (by lia) (fun i h4=>?_) b
    rcases Sh i md with h6 | h6
    ·exact tr _ _ _ (hp.lt (by lia)) (hp.lt (by lia)) (hp.lt hk) (hu i md h6 (by lia)) e'
    ·have:i=md:=by lia
     subst this
     exact e'
theorem HH {p:Array Nat} {k l:Nat} (hk:k < p.size) (hl:l<=k) (i:Nat):(bubble p k (k - l)).getD i 0=if i=l then p.getD k 0 else if l < i/\i<=k then p.getD (i - 1) 0 else p.getD i 0:=by
 have e:=getElem?_bubble hk (k - l) (by lia) i
 rw[show k - (k - l)=l by lia] at e
 by_cases h:i=l
 ·rw[if_pos h] at e ⊢
  exact nC e
 ·rw[if_neg h] at e ⊢
  by_cases h':l < i/\i<=k
  ·rw[if_pos h'] at e ⊢
   exact nC e
  ·rw[if_neg h'] at e ⊢
   exact nC e
include tr tot hc in
theorem Cr {Q:Array Nat->PB->Prop} (hq:∀ p,dZ n p->UpO o p n->Q p s):∀ (f:Nat) (p:Array Nat) (k:Nat),dZ n p->k+f=n->UpO o p k->(kas_bin f p k).kasWp cmp Q s
 | 0,p,k,hp,e,hu=>hq p hp (by rw[← e]; exact hu)
 | f+1,p,k,hp,e,hu=>by
  unfold kas_bin
  rw[VJ]
  refine mO tr tot hc hp (by lia) hu (fun l hl a b=>?_) k 0 k (QB _) (PX _) (by lia) (fun i h=>by lia) (fun i h1 h2=>by lia)
  have hpb:dZ n (bubble p k (k - l)):=(Array.perm_iff_toList_perm.mp (bubble_perm p k (k - l))).trans hp
  refine Cr hq f _ (k+1) hpb (by lia) fun i j hij hj=>?_
  have hks:k < p.size:=by rw[hp.size]; lia
  rw[HH hks hl,HH hks hl]
  by_cases h1:i=l
  ·rw[if_pos h1,if_neg (by lia),if_pos (by lia)]
   exact b (j - 1) (by lia) (by lia)
  ·rw[if_neg h1]
   by_cases h2:l < i/\i<=k
   ·rw[if_pos h2,if_neg (by lia),if_pos (by lia)]
    exact hu (i - 1) (j - 1) (by lia) (by lia)
   ·rw[if_neg h2]
    by_cases h3:j=l
    ·rw[if_pos h3]
     exact a i (by lia)
    ·rw[if_neg h3]
     by_cases h4:l < j/\j<=k
     ·rw[if_pos h4]
      rcases Sh i (j - 1) with h5 | h5
      ·exact hu i (j - 1) h5 (by lia)
      ·lia
     ·rw[if_neg h4]
      exact hu i j hij (by lia)
include tr tot hc in
theorem Eb (h2:2<=n) {Q:Array Nat->PB->Prop} (hq:∀ p,dZ n p->UpO o p n->Q p s):(kas_sort n).kasWp cmp Q s:=by
 unfold kas_sort
 rw[VJ]
 refine Ba tr tot hc h2 (p:=Xq (P0 n)) (List.Perm.refl _) fun m p' hp' h1 hm hu=>?_
 by_cases g:m < n
 ·show Tz cmp (if m < n then _ else _) Q s
  rw[if_pos g,show max m 1=m by lia]
  exact Cr tr tot hc hq (n - m) p' m hp' (by lia) hu
 ·show Tz cmp (if m < n then _ else _) Q s
  rw[if_neg g]
  have:m=n:=by lia
  subst this
  exact hq p' hp' hu
end
end L2
namespace L2
open PySem PySem.Spec PyProof.Rows PySem.W PySem.SeqAt
open AutoSeq1 (wpAny_loadPart')
open MeetsSeq MeetsSeq2 MeetsSeq3
theorem yh (l b:Addr) (items items2:Array Value) (n n2:Nat) (dd dd2:Option Addr) (sl sl2:Array (Option Value)) {ns ms:List Int} (i1:Rh items.toList ns) (i2:Rh items2.toList ms) (k:Nat) :
  ∀ i:Nat,i<=ns.length->i<=ms.length->min ns.length ms.length - i=k->Meets (Ss.«list.__eq__.loop» ⟨[.ref l,.ref b,RJ i,RJ 0],[]⟩)
   (fun A R s=>s.heap.get? l=some { cls:=.type "list",dict:=dd,data:=.seq items n,slots:=sl }/\s.heap.get? b=some { cls:=.type "list",dict:=dd2,data:=.seq items2 n2,slots:=sl2 } ∧
    R (.ok (.ret (.bool (HT.lexLt (ns.drop i) (ms.drop i))))) s):=by
 have z1:items.size=ns.length:=by rw[← Qw]; exact i1.length
 have z2:items2.size=ms.length:=by rw[← Qw]; exact i2.length
 induction k with
 | zero =>
  intro i h1 h2 hk prog w A R s h
  obtain⟨hp,g,d,tk,os⟩:=s; obtain⟨hl,hb,h⟩:=h
  have lx:HT.lexLt (ns.drop i) (ms.drop i)=decide (items.size < items2.size):=by
   rw[z1,z2]
   by_cases a1:i < ns.length
   ·have a2:ms.length=i:=by lia
    rw[Vn (l:=ms) (by lia),Ti a1,HT.oA,decide_eq_false (by lia)]
   ·rw[Vn (l:=ns) (by lia)]
    by_cases a2:i < ms.length
    ·rw[Ti a2,HT.oK,decide_eq_true (by lia)]
    ·rw[Vn (l:=ms) (by lia),decide_eq_false (by lia)]
     rfl
  rw[lx] at h
  wp_walk using QR hl,QR hb
  by_cases a1:i < ns.length
  ·have hi2:items2[((i:Nat):Int).toNat]? = none:=by simp; lia
   have hi1:∃ v,items[((i:Nat):Int).toNat]? = some v:=⟨items[i],by rw[QC]; exact Qq (by lia)⟩
   obtain⟨v,hi1⟩:=hi1
   rw[hi1,hi2]
   wp_walk using QR hl,QR hb
   exact h
  ·have hi1:items[((i:Nat):Int).toNat]? = none:=by simp; lia
   rw[hi1]
   wp_walk using QR hl,QR hb
   exact h
 | succ k ih =>
  intro i h1 h2 hk prog w A R s h
  obtain⟨hp,g,d,tk,os⟩:=s; obtain⟨hl,hb,h⟩:=h
  wp_walk using QR hl,QR hb
  have hlt:i < ns.length:=by lia
  have hlt2:i < ms.length:=by lia
  obtain⟨t1,e1⟩:=jW i1 (PJ hlt)
  obtain⟨t2,e2⟩:=jW i2 (PJ hlt2)
  have hi1:items[((i:Nat):Int).toNat]? = some (.int ns[i] t1):=by rw[QC,← QW]; exact e1
  have hi2:items2[((i:Nat):Int).toNat]? = some (.int ms[i] t2):=by rw[QC,← QW]; exact e2
  have hc:((i:Int)+1)=((i+1:Nat):Int):=by push_cast; rfl
  rw[Ti hlt,Ti hlt2,HT.iK] at h
  rw[hi1,hi2]
  refine Px (wpAny_eqBool_int ?_)
  by_cases hb':ns[i]=ms[i]
  ·rw[if_pos hb'] at h
   rw[show (ns[i] == ms[i])=true by simp [hb']]
   wp_walk
   rw[hc]
   exact⟨Sy plain_eq_loop _,RZ entry_eq_loop (by
    rw[RD plain_eq_loop _]
    exact ih (i+1) (by lia) (by lia) (by lia) prog w A R _ ⟨hl,hb,h⟩)⟩
  ·rw[if_neg hb'] at h
   rw[show (ns[i] == ms[i])=false by simp [hb']]
   wp_walk using QR hl,QR hb
   rw[hi1,hi2]
   show Qd _ _ (do let v ← richCompare .Lt (.int ns[i] t1) (.int ms[i] t2); ret v) _ _ _
   refine Px (show Qd _ _ (Td .Lt (.int ns[i] t1) (.int ms[i] t2)) _ _ _ from PyProof.Rows.lt_int ?_)
   exact PK h
theorem xY (l b:Addr) (items items2:Array Value) (n n2:Nat) (dd dd2:Option Addr) (sl sl2:Array (Option Value)) {ns ms:List Int} (i1:Rh items.toList ns) (i2:Rh items2.toList ms) :
  Meets (Ss.«list.__lt__» ⟨[.ref l,.ref b],[]⟩)
   (fun A R s=>s.heap.get? l=some { cls:=.type "list",dict:=dd,data:=.seq items n,slots:=sl }/\s.heap.get? b=some { cls:=.type "list",dict:=dd2,data:=.seq items2 n2,slots:=sl2 } ∧
    R (.ok (.ret (.bool (HT.lexLt ns ms)))) s):=by
 intro prog w A R s h
 obtain⟨hp,g,d,tk,os⟩:=s; obtain⟨hl,hb,h⟩:=h
 have f3:=AutoSeq1.sub_list_list
 wp_walk using QR hl,QR hb
 exact⟨Sy plain_eq_loop _,RZ entry_eq_loop (by
  rw[RD plain_eq_loop _]
  exact yh l b items items2 n n2 dd dd2 sl sl2 i1 i2 _ 0 (QB _) (QB _) rfl prog w A R _ ⟨hl,hb,h⟩)⟩
section
variable {prog:Qx} {w:QG} {A:QK} {E:Value->PB->Prop} {s:PB}
end
end L2
namespace L2
open PySem PySem.Spec PyProof.Rows PySem.W
theorem jl:∀ {a b c:List Int},HT.lexLt a b=true->HT.lexLt b c=true->HT.lexLt a c=true
 | [],[],_,h,_=>by cases h
 | [],_::_,[],_,h=>by cases h
 | [],_::_,_::_,_,_=>rfl
 | _::_,[],_,h,_=>by cases h
 | _::_,_::_,[],_,h=>by cases h
 | x::a,y::b,z::c,h1,h2=>by
  rw[HT.iK] at h1 h2 ⊢
  by_cases e1:x=y
  ·rw[if_pos e1] at h1
   by_cases e2:y=z
   ·rw[if_pos e2] at h2
    rw[if_pos (e1.trans e2)]
    exact jl h1 h2
   ·rw[if_neg e2] at h2
    rw[e1,if_neg e2]
    exact h2
  ·rw[if_neg e1] at h1
   have d1:=of_decide_eq_true h1
   by_cases e2:y=z
   ·rw[← e2,if_neg e1]
    exact h1
   ·rw[if_neg e2] at h2
    have d2:=of_decide_eq_true h2
    rw[if_neg (by lia)]
    exact decide_eq_true (by lia)
theorem rQ:∀ {a b:List Int},a≠b->HT.lexLt a b=false->HT.lexLt b a=true
 | [],[],h,_=>absurd rfl h
 | [],_::_,_,h=>by cases h
 | _::_,[],_,_=>rfl
 | x::a,y::b,h,e=>by
  rw[HT.iK] at e ⊢
  by_cases q:x=y
  ·rw[if_pos q] at e
   rw[if_pos q.symm]
   exact rQ (fun z=>h (by rw[q,z])) e
  ·rw[if_neg q] at e
   rw[if_neg (fun z=>q z.symm)]
   have:=of_decide_eq_false e
   exact decide_eq_true (by lia)
section
variable {prog:Qx} {w:QG} {A:QK} {E:Value->PB->Prop} {s:PB}
theorem Cw {l b:Addr} {items items2:Array Value} {ns ms:List Int} {C:Bool->PB->Prop} (hl:s.heap.IsList l items) (hb:s.heap.IsList b items2) (i1:Rh items.toList ns) (i2:Rh items2.toList ms) (hu:A.units < cLine) (h:C (HT.lexLt ns ms) s):Qd (Qt prog w) A (keyLt' oneType' (.ref l) (.ref b)) C E s:=by
 obtain⟨⟨cls,dd,data,sl⟩,ho,hc,n,hd⟩:=id hl
 obtain⟨⟨cls2,dd2,data2,sl2⟩,ho2,hc2,n2,hd2⟩:=id hb
 simp only at hc hd hc2 hd2
 subst hc hd hc2 hd2
 rw[keyLt'_oneType,oneLt'_eq]
 simp only[if_true]
 refine Px (wpAny_cRoomFor hu ?_)
 refine Px (wpAny_callSpecialIfBound?_slot ⟨_,ho,rfl⟩ F.slot_list_lt (Ue F.slot_list_lt ⟨_,ho,rfl⟩ F.entry_list_lt (F.args_list_lt_2 _ _) (xY l b items items2 n n2 dd dd2 sl sl2 i1 i2) ⟨ho,ho2,?_⟩))
 exact Tp h
theorem qC {a:Addr} {vs:List Value} {n:Nat} {κ:Vx} {o:Nat->Nat->Bool} {P:Fin->PB->Prop} (ho:s.heap.get? a=some (Sw "list" vs.toArray n)) (h64:vs.length < 64)
  (hk:2<=vs.length->∀ h',qg s.heap h' a->∀ Q:Vx->PB->Prop,Q κ { s with heap:=h' }->Qd (Qt prog w) A (keyKind' vs.toArray) Q E { s with heap:=h' })
  (hO:∀ h',qg s.heap h' a->∀ i j,i < vs.length->j < vs.length->∀ C:Bool->PB->Prop,C (o i j) { s with heap:=h' }->Qd (Qt prog w) A (keyLt' κ (vs.getD i QZ) (vs.getD j QZ)) C (fun _ _=>False) { s with heap:=h' })
  (tr:∀ i j k,i < vs.length->j < vs.length->k < vs.length->o i j=true->o j k=true->o i k=true) (tot:∀ i j,i < vs.length->j < vs.length->i≠j->o i j=false->o j i=true)
  (h:∀ p:Array Nat,dZ vs.length p->UpO o p vs.length->P (.done (.ret .none)) { s with heap:=sortedHeap s.heap a vs (p.toList.map fun i=>vs.getD i QZ).toArray }) :
  Qd (Qt prog w) A (Ss.«list.sort» ⟨[.ref a],[]⟩) P E s:=by
 rw[list_sort_plain]
 have ha:a < s.heap.objs.size:=Qf ho
 refine Px (listItems_at ho rfl ?_)
 refine Px (listUpdate_at ho rfl ?_ (by rw[Qe,Uw]; lia) (QB _))
 obtain⟨e1,ho1⟩:∃ e1,(s.heap.update a (RN fun _=>#[])).get? a=some (Sw "list" #[] e1):=⟨_,get?_update_seq ho (fun _=>#[])⟩
 refine Px (seqEpoch_at ho1 rfl ?_)
 refine Px (wpAny_newTuple ?_ (by show vs.length<=_; rw[Uw]; lia))
 refine Px (wpAny_newList ?_ (QB _))
 refine S6 ?_
 have ho6:(((s.heap.update a (RN fun _=>#[])).push (Sw "tuple" vs.toArray 0)).push (Sw "list" #[] 0)).get? a=some (Sw "list" #[] e1):=by
  rw[Uu _ _ _ (by rw[size_push',Vs]; exact Qv (RB ha)),Uu _ _ _ (by rw[Vs]; exact Qv ha)]
  exact ho1
 have kp:qg s.heap (((s.heap.update a (RN fun _=>#[])).push (Sw "tuple" vs.toArray 0)).push (Sw "list" #[] 0)) a:=fun b o hb e=>by
  have hlt:b < s.heap.objs.size:=Qf e
  rw[Uu _ _ _ (by rw[size_push',Vs]; exact Qv (RB hlt)),Uu _ _ _ (by rw[Vs]; exact Qv hlt),Heap.get?_update_ne _ _ _ _ hb]
  exact e
 show Qd (Qt prog w) A _ P E { s with heap:=((s.heap.update a (RN fun _=>#[])).push (Sw "tuple" vs.toArray 0)).push (Sw "list" #[] 0) }
 dsimp only
 have hsz:vs.toArray.size=vs.length:=by simp
 have erange:(Xq (P0 vs.length)).map (kas_item (V0 vs))=V0 vs:=by
  have e:=kas_range (V0 vs)
  rw[show (V0 vs).size=vs.length from pairsOf_size vs] at e
  exact e
 have emap:∀ p:Array Nat,(p.map (kas_item (V0 vs))).map (·.2)=(p.toList.map fun i=>vs.getD i QZ).toArray:=fun p=>by
  apply Array.ext'
  simp [kas_item_eq]
 by_cases h2:vs.toArray.size < 2
 ·rw[if_pos h2,if_pos h2]
  refine Px (PK ?_)
  rw[StateT.run_pure]
  refine Px (PK ?_)
  dsimp only
  have em:(V0 vs).map (·.2)=((P0 vs.length).map fun i=>vs.getD i QZ).toArray:=by
   rw[← erange,emap]
  refine Px (seqEpoch_at ho6 rfl ?_)
  refine Px (listUpdate_at ho6 rfl ?_ (QB _) (by rw[Array.size_map]; show (V0 vs).size<=_; rw[pairsOf_size,Uw]; lia))
  simp only[bne_self_eq_false,Wb,if_false]
  have:=h (Xq (P0 vs.length)) (List.Perm.refl _) fun i j hij hj=>by lia
  refine PK ?_
  show P _ { s with heap:=sortedHeap s.heap a vs ((V0 vs).map (·.2)) }
  rw[em]
  exact this
 ·rw[if_neg h2,if_neg h2]
  refine Px (hk (by lia) _ kp _ ?_)
  have est:SortSt.mk' κ (vs.toArray.zip vs.toArray) #[] 7 none=kas_st κ (V0 vs) (Xq (P0 vs.length)):=by
   unfold kas_st
   rw[erange]
   rfl
  rw[est]
  refine Px (SJ (kas_runs (prog:=prog) (w:=w) (A:=A) (E:=E) (it:=V0 vs) (κ:=κ) (n:=vs.length) (s:={ s with heap:=((s.heap.update a (RN fun _=>#[])).push (Sw "tuple" vs.toArray 0)).push (Sw "list" #[] 0) })
   (G:=fun p s'=>(dZ vs.length p/\UpO o p vs.length)/\s'={ s with heap:=((s.heap.update a (RN fun _=>#[])).push (Sw "tuple" vs.toArray 0)).push (Sw "list" #[] 0) })
   (Q:=fun _ st' s'=>(∃ p,(dZ vs.length p/\UpO o p vs.length)/\arrOf st'=p.map (kas_item (V0 vs))/\failedOf st'=none)/\s'={ s with heap:=((s.heap.update a (RN fun _=>#[])).push (Sw "tuple" vs.toArray 0)).push (Sw "list" #[] 0) })
   (by lia) h64 (fun p' st' s' _ ea ef hg=>⟨⟨p',hg.1,ea,ef⟩,hg.2⟩) (Eb tr tot (fun i j hi hj C hC=>?_) (by lia) fun p hp hu=>⟨⟨hp,hu⟩,rfl⟩)) ?_ fun _ _ e=>e)
  ·unfold kas_cmp
   rw[kas_item_eq,kas_item_eq]
   exact hO _ kp i j hi hj C hC
  ·rintro⟨⟨⟩,st'⟩ s' ⟨⟨p,⟨hp,hu⟩,e1,e2⟩,rfl⟩
   dsimp only at e1 e2 ⊢
   have em:(arrOf st').map (·.2)=(p.toList.map fun i=>vs.getD i QZ).toArray:=by rw[e1,emap]
   refine Px (seqEpoch_at ho6 rfl ?_)
   refine Px (listUpdate_at ho6 rfl ?_ (QB _) (by rw[em,Qe,Py,Qw,hp.size,Uw]; lia))
   rw[e2]
   simp only[bne_self_eq_false,Wb,if_false]
   rw[em]
   exact PK (h p hp hu)
end
end L2
namespace L2
open PySem PySem.Spec PyProof.Rows PySem.W
section
variable {prog:Qx} {w:QG} {A:QK} {E:Value->PB->Prop} {s:PB}
theorem zb {l:Addr} {vs:List Value} {κ:Vx} {o:Nat->Nat->Bool} {Q:Value->PB->Prop} (hl:s.heap.IsList l vs.toArray) (h64:vs.length < 64)
  (hk:2<=vs.length->∀ h':Rb,(∀ b o,s.heap.get? b=some o->h'.get? b=some o)->∀ Q:Vx->PB->Prop,Q κ { s with heap:=h' }->Qd (Qt prog w) A.in1.in1 (keyKind' vs.toArray) Q E { s with heap:=h' })
  (hO:∀ h':Rb,(∀ b o,s.heap.get? b=some o->h'.get? b=some o)->∀ i j,i < vs.length->j < vs.length->∀ C:Bool->PB->Prop,C (o i j) { s with heap:=h' }->Qd (Qt prog w) A.in1.in1 (keyLt' κ (vs.getD i QZ) (vs.getD j QZ)) C (fun _ _=>False) { s with heap:=h' })
  (tr:∀ i j k,i < vs.length->j < vs.length->k < vs.length->o i j=true->o j k=true->o i k=true) (tot:∀ i j,i < vs.length->j < vs.length->i≠j->o i j=false->o j i=true)
  (h:∀ p:Array Nat,dZ vs.length p->UpO o p vs.length->Q (.ref (s.heap.objs.size+1)) { s with heap:=sortedAll s.heap vs (p.toList.map fun i=>vs.getD i QZ).toArray }) :
  Qd (Qt prog w) A (call (.builtin "sorted") [.ref l]) Q E s:=by
 refine Calls.call_function_entry kind_sorted plain_sorted entry_sorted (args_sorted1 _) ?_
 unfold Ss.«sorted»
 refine Px (m:=checkCount "sorted" 1 1 _) (PK ?_)
 refine Px (collect_list hl ?_ (by rw[Uw]; lia))
 refine Px (wpAny_newList ?_ (by rw[Uw]; lia))
 have hsz:((s.heap.push (Sw "list" #[] 0)).update s.heap.objs.size (RN (·++vs.toArray))).objs.size=s.heap.objs.size+1:=by
  rw[Vs,size_push']
 have hoL:(((s.heap.push (Sw "list" #[] 0)).update s.heap.objs.size (RN (·++vs.toArray))).push (Sw "list" vs.toArray 0)).get? (s.heap.objs.size+1)=some (Sw "list" vs.toArray 0):=by
  rw[← hsz]; exact PN _ rfl
 have keep:∀ b o,s.heap.get? b=some o->(((s.heap.push (Sw "list" #[] 0)).update s.heap.objs.size (RN (·++vs.toArray))).push (Sw "list" vs.toArray 0)).get? b=some o:=fun b o q=>by
  have hlt:b < s.heap.objs.size:=Qf q
  rw[Uu _ _ _ (by rw[hsz]; exact Qv (RB hlt)),Heap.get?_update_ne _ _ _ _ (Qv hlt),Uu _ _ _ (Qv hlt)]
  exact q
 have kb:∀ h':Rb,qg (((s.heap.push (Sw "list" #[] 0)).update s.heap.objs.size (RN (·++vs.toArray))).push (Sw "list" vs.toArray 0)) h' (s.heap.objs.size+1)->∀ b o,s.heap.get? b=some o->h'.get? b=some o:=fun h' k b o q =>
  k b o (Qv (RB (Qf q))) (keep b o q)
 show Qd _ _ _ _ _ { s with heap:=((s.heap.push (Sw "list" #[] 0)).update s.heap.objs.size (RN (·++vs.toArray))).push (Sw "list" vs.toArray 0) }
 rw[hsz]
 refine Px (S6 (Ra slot_list_sort ⟨_,hoL,rfl⟩ entry_list_sort (qC (s:={ s with heap:=((s.heap.push (Sw "list" #[] 0)).update s.heap.objs.size (RN (·++vs.toArray))).push (Sw "list" vs.toArray 0) }) hoL h64 (fun h2 h' k=>hk h2 h' (kb h' k)) (fun h' k=>hO h' (kb h' k)) tr tot fun p hp hu=>⟨_,rfl,?_⟩) (args_list_sort _)))
 exact PK ⟨_,rfl,h p hp hu⟩
end
theorem zX {β:Type} {l:List β} {d:β} {p:Array Nat} (hp:dZ l.length p):(p.toList.map fun i=>l.getD i d).Perm l:=by
 refine (List.Perm.map _ hp).trans ?_
 have e:(P0 l.length).map (fun i=>l.getD i d)=l:=by
  apply List.ext_getElem (by simp)
  intro i h1 h2
  simp [h2]
 rw[e]
section
variable {X:Cx} {k:Nat}
inductive wU (K:Qu) (xs:List V) (H:Hp) (Q:VK):Prop where
 | mk (p:Addr) (ps:List (Addr × List Int)) (z0:xs=[.ref p]) (z1:SqL K H p (ps.map fun p=>V.ref p.1)) (z2:ps.length < 64) (z3:(∀ q∈ps,SqL K H q.1 (q.2.map V.int))) (z4:(ps.map (·.2)).Nodup) (z5:∀ qs:List (Addr × List Int),qs.Perm ps->qs.Pairwise (fun a b=>HT.lexLt a.2 b.2=true)->∀ l,H l=none->Q (.ref l) (upd H l (.lst (qs.map fun p=>V.ref p.1)))):wU K xs H Q
def vp (K:Qu):List V->Hp->VK->Prop:=fun xs H Q=>wU K xs H Q
theorem mR (hr:oF k X.A):iy X (.builtin "sorted") (vp X.K):=by
 intro pins s σ H xs us Q I r h
 obtain⟨p,ps,rfl,hq,h64,ht,hnd,q⟩:=h
 obtain⟨u,rfl,ru⟩:=vals1 r
 cases ru
 obtain⟨its,rv,pl,_⟩:=I.list hq
 have ei:=Ae ps its rv
 subst ei
 have lv:(ps.map fun p=>QS p.1).length=ps.length:=by simp
 have pr:∀ p∈ps,∃ its:List Value,s.heap.IsList p.1 its.toArray/\Rh its p.2:=fun p hm=>by
  obtain⟨i2,r2,p2,_⟩:=I.list (ht p hm)
  exact⟨i2,p2.isList,intsAre_of r2⟩
 have kl:∀ {h':Rb} {a:Addr} {it:Array Value},(∀ b o,s.heap.get? b=some o->h'.get? b=some o)->s.heap.IsList a it->h'.IsList a it:=fun kp ⟨ob,e,r⟩=>⟨ob,kp _ _ e,r⟩
 have hu:X.A.in1.in1.units < cLine:=by
  have:=hr.un
  show X.A.units+1+1 < _
  lia
 let o:Nat->Nat->Bool:=fun i j=>HT.lexLt (ps.getD i (0,[])).2 (ps.getD j (0,[])).2
 have dif:∀ i j,i < ps.length->j < ps.length->i≠j->(ps.getD i (0,[])).2≠(ps.getD j (0,[])).2:=fun i j hi hj ne z=>by
  have h1:(ps.getD i (0,[])).2=(ps.map (·.2))[i]'(by simpa using hi):=by simp [hi]
  have h2:(ps.getD j (0,[])).2=(ps.map (·.2))[j]'(by simpa using hj):=by simp [hj]
  rw[h1,h2] at z
  exact ne ((Wt hnd).mp z)
 refine zb (o:=o) (κ:=oneType') pl.isList (by lia) (fun h2 h' kp Q' hQ=>?_) (fun h' kp i j hi hj C hC=>?_) (fun i j k _ _ _ a b=>jl a b) (fun i j hi hj ne e=>rQ (dif i j (by lia) (by lia) ne) e) fun pm hp hup=>?_
 ·refine kas_kind (T:=.type "list") h2 (fun v hv=>?_) (by rfl) (by rfl) hQ
  obtain⟨p,hm,rfl⟩:=List.mem_map.mp hv
  obtain⟨it,h1,_⟩:=pr p hm
  obtain⟨ob,e,c,_⟩:=kl kp h1
  exact kitAt_ty _ _ ⟨ob,e,c⟩
 ·have hi':i < ps.length:=by lia
  have hj':j < ps.length:=by lia
  rw[show (ps.map fun p=>QS p.1).getD i QZ = .ref ps[i].1 by simp [hi'],show (ps.map fun p=>QS p.1).getD j QZ = .ref ps[j].1 by simp [hj']]
  obtain⟨i1,l1,n1⟩:=pr ps[i] (Rg hi')
  obtain⟨i2,l2,n2⟩:=pr ps[j] (Rg hj')
  refine Cw (kl kp l1) (kl kp l2) (by simpa using n1) (by simpa using n2) hu ?_
  have:o i j=HT.lexLt ps[i].2 ps[j].2:=by simp [o,hi',hj']
  rw[← this]
  exact hC
 ·rw[lv] at hp hup
  obtain⟨e,he⟩:=sortedAll_at s.heap (ps.map fun p=>QS p.1) (pm.toList.map fun i=>(ps.map fun p=>QS p.1).getD i QZ).toArray
  have hlt:∀ i∈pm.toList,i < ps.length:=fun i hi=>List.mem_range.mp (hp.mem_iff.mp hi)
  have hml:(pm.toList.map fun i=>V.ref (ps.getD i (0,[])).1).length<=sizeLine:=by
   rw[Py,Qw,hp.size,Uw]
   lia
  have q':=q (pm.toList.map fun i=>ps.getD i (0,[])) (zX hp) ?_ (s.heap.objs.size+1) (I.hok.fresh (Tq _))
  ·rw[RQ] at q'
   exact⟨.ref _,_,I.Kc rfl rfl (fun _ _=>sortedAll_old) (Tq _) (zB pm.toList hlt) hml he,rfl,q'⟩
  ·rw[List.pairwise_iff_getElem]
   intro i j hi hj hij
   rw[Py,Qw,hp.size] at hi hj
   have:=hup i j hij hj
   simp only[List.getElem_map]
   have g:∀ x (hx:x < ps.length),pm.getD x 0=pm.toList[x]'(by rw[Qw,hp.size]; exact hx):=fun x hx=>by
    have:x < pm.size:=by rw[hp.size]; exact hx
    simp [Array.getD,this]
   rw[g i hi,g j hj] at this
   exact this
end
end L2
namespace L2
open PySem PySem.Spec PyProof.Rows
inductive HasDef (K:Qi) (x:Rx) (st:Stmt) (f:Addr):Prop where
 | mk {od an:Option Addr} {sl:Array (Option Value)} {oc kV dc pm cd ct:Value} (a:PySem.W.nsIn K QD x=some (some (.ref f))) (l:K.lookup f=some ⟨oc,od,.func (Vj x x (fM st) (eY st) (aH st) .none kV dc pm an cd ct),sl⟩) (c:WX K cd x=true) (k:V6 K (.ref f)=true):HasDef K x st f
section
variable {P:Qx} {w:QG} {K:Qu} {mg:Rx->Option Value} {base h:Rb} {x:Rx} {st:Stmt} {f:Addr} {ps:List Rx} {sp:Sp} {k:Nat}
theorem HasDef.name (q:HasDef K x st f) (X:K.In h) (G:h.Ns QD mg):mg x=some (.ref f):=by
 obtain⟨a,l,c,k⟩:=q
 exact PySem.W.mg_of X G a
theorem HasDef.df (q:HasDef K x st f) (X:K.In h) (G:h.Ns QD mg) (hb:∀ fd,Fun K x x st f fd->Binds K fd ps []) (ok:∀ fd,Fun K x x st f fd->fj P w K mg base CX0 k f fd ps sp):Df P w K mg base x k ps sp:=by
 obtain⟨a,l,c,k⟩:=q
 have F:=HQ l c k
 exact⟨⟨_,_,ok _ F,PySem.W.mg_of X G a,k,hb _ F⟩⟩
theorem HasDef.law {y:Rx} (q:HasDef K x st f) (hb:∀ (kV dc pm:Value) (an:Option Addr) (cd ct:Value) (s:PB) (v:Value),W4 s (W.fnOf x x (fM st) (eY st) (aH st) .none kV dc pm an cd ct) ⟨[v],[]⟩ [(y,v)]):∃ fd,Fun K x x st f fd/\∀ (s:PB) (v:Value),W4 s fd ⟨[v],[]⟩ [(y,v)]:=by
 obtain⟨a,l,c,k⟩:=q
 exact⟨_,HQ l c k,hb _ _ _ _ _ _⟩
theorem OJ {α:Type}:∀ {us:List α},us.length=1->∃ x0,us=[x0]
 | [x0],_=>⟨x0,rfl⟩
theorem Pa {α:Type}:∀ {us:List α},us.length=2->∃ x0 x1,us=[x0,x1]
 | [x0,x1],_=>⟨x0,x1,rfl⟩
theorem Ph {α:Type}:∀ {us:List α},us.length=3->∃ x0 x1 x2,us=[x0,x1,x2]
 | [x0,x1,x2],_=>⟨x0,x1,x2,rfl⟩
theorem O7 {α:Type}:∀ {us:List α},us.length=4->∃ x0 x1 x2 x3,us=[x0,x1,x2,x3]
 | [x0,x1,x2,x3],_=>⟨x0,x1,x2,x3,rfl⟩
theorem Pn {α:Type}:∀ {us:List α},us.length=5->∃ x0 x1 x2 x3 x4,us=[x0,x1,x2,x3,x4]
 | [x0,x1,x2,x3,x4],_=>⟨x0,x1,x2,x3,x4,rfl⟩
theorem bind1 {a0:Rx} (h:∀ (kV doc pm:Value) (an:Option Addr) (cdv ct x0:Value),WW (W.fnOf x x (fM st) (eY st) (aH st) .none kV doc pm an cdv ct) ⟨[x0],[]⟩=pure [(a0,x0)]):∀ fd,Fun K x x st f fd->Binds K fd [a0] []:=fun _ F=>F.binds fun kV doc pm an cdv ct us hl=>by
 obtain⟨x0,rfl⟩:=OJ hl
 exact h kV doc pm an cdv ct x0
theorem cu {a0 a1:Rx} (h:∀ (kV doc pm:Value) (an:Option Addr) (cdv ct x0 x1:Value),WW (W.fnOf x x (fM st) (eY st) (aH st) .none kV doc pm an cdv ct) ⟨[x0,x1],[]⟩=pure [(a0,x0),(a1,x1)]):∀ fd,Fun K x x st f fd->Binds K fd [a0,a1] []:=fun _ F=>F.binds fun kV doc pm an cdv ct us hl=>by
 obtain⟨x0,x1,rfl⟩:=Pa hl
 exact h kV doc pm an cdv ct x0 x1
theorem vC {a0 a1 a2:Rx} (h:∀ (kV doc pm:Value) (an:Option Addr) (cdv ct x0 x1 x2:Value),WW (W.fnOf x x (fM st) (eY st) (aH st) .none kV doc pm an cdv ct) ⟨[x0,x1,x2],[]⟩=pure [(a0,x0),(a1,x1),(a2,x2)]):∀ fd,Fun K x x st f fd->Binds K fd [a0,a1,a2] []:=fun _ F=>F.binds fun kV doc pm an cdv ct us hl=>by
 obtain⟨x0,x1,x2,rfl⟩:=Ph hl
 exact h kV doc pm an cdv ct x0 x1 x2
theorem u0 {a0 a1 a2 a3:Rx} (h:∀ (kV doc pm:Value) (an:Option Addr) (cdv ct x0 x1 x2 x3:Value),WW (W.fnOf x x (fM st) (eY st) (aH st) .none kV doc pm an cdv ct) ⟨[x0,x1,x2,x3],[]⟩=pure [(a0,x0),(a1,x1),(a2,x2),(a3,x3)]):∀ fd,Fun K x x st f fd->Binds K fd [a0,a1,a2,a3] []:=fun _ F=>F.binds fun kV doc pm an cdv ct us hl=>by
 obtain⟨x0,x1,x2,x3,rfl⟩:=O7 hl
 exact h kV doc pm an cdv ct x0 x1 x2 x3
theorem Ms {a0 a1 a2 a3 a4:Rx} (h:∀ (kV doc pm:Value) (an:Option Addr) (cdv ct x0 x1 x2 x3 x4:Value),WW (W.fnOf x x (fM st) (eY st) (aH st) .none kV doc pm an cdv ct) ⟨[x0,x1,x2,x3,x4],[]⟩=pure [(a0,x0),(a1,x1),(a2,x2),(a3,x3),(a4,x4)]):∀ fd,Fun K x x st f fd->Binds K fd [a0,a1,a2,a3,a4] []:=fun _ F=>F.binds fun kV doc pm an cdv ct us hl=>by
 obtain⟨x0,x1,x2,x3,x4,rfl⟩:=Pn hl
 exact h kV doc pm an cdv ct x0 x1 x2 x3 x4
end
end L2
namespace L2
open PySem PySem.Spec PyProof.Rows
section
variable {X:Cx} {k j:Nat} {x m:Rx} {C:Addr} {ps:List Rx} {sp:Sp} {p pos apos:Vo} {o e:Expr} {es:List Expr} {to:TE} {t:TA} {f:Rx}
end
end L2
namespace L2
open PySem PySem.Spec PyProof.Rows
section
variable {prog:Qx} {w:QG} {A:QK} {E:Value->PB->Prop} {s:PB}
end
section
variable {X:Cx}
end
end L2
namespace My
open PySem L2
variable {P:Qx} {w:QG} {K:Qu} {mg:Rx->Option Value} {base:Rb} {f:Addr} {fd:Um}
def top (i:Nat):Stmt:=PySem.Challenge.pw_loveboon_k23_whole_folk_numbered_otherwi.main.body.getD i (.Pass ⟨0,0,0,0⟩)
theorem au {H:Hp} {p:Addr} (h:H p=none) (o:HO):aM H (upd H p o):=fun b u q=>by rw[bx (dW q h)]; exact q
theorem aF {H H':Hp} {p:Addr} (s:aM H H') (h:H p=none) (o:HO):aM H (upd H' p o):=fun b u q=>by rw[bx (dW q h)]; exact s b u q
theorem jE {K:Qu} {H H':Hp} {a:Addr} {xs:List V} (e:aM H H') (h:SqT K H a xs):SqT K H' a xs:=by
 rcases h with (h | ⟨o,h⟩) | h
 ·exact .inl (.inl (e _ _ h))
 ·exact .inl (.inr ⟨o,e _ _ h⟩)
 ·exact .inr h
theorem zT {H:Hp} {p:Addr} {o o':HO}:upd (upd H p o) p o'=upd H p o':=by
 funext b
 unfold upd
 by_cases e:b=p
 ·rw[if_pos e,if_pos e]
 ·rw[if_neg e,if_neg e,if_neg e]
theorem small {n:Nat} (h:n<=1000):n<=sizeLine:=U3 (aD h)
theorem int_at {ns:List Int} {i:Nat} {x:V} (h:(ns.map V.int)[i]? = some x):∃ n,ns[i]? = some n/\x = .int n:=by
 rw[Qn] at h
 cases e:ns[i]? with
 | none=>rw[e] at h; cases h
 | some n=>rw[e] at h; exact⟨n,rfl,(QJ h).symm⟩
theorem qK {α β:Type} (f:α->β) {xs:List α} {i:Nat} {x:α} (h:xs[i]? = some x):(xs.take i).map f++[f x]=(xs.take (i+1)).map f:=by
 rw[QF,h,PQ]
 rfl
theorem o6 {ns:List Int} {i:Nat} (h:i < ns.length):atI (ns.map V.int) (i:Int)=some (.int ns[i]):=iG (by rw[Qn,PJ h]; rfl)
theorem gT {i:Nat} {x:V} {σ:St} {H:Hp} {A B:St->Hp->Prop} (h:A (σ.set i (some x)) H):Gd i x σ H (fun σ3 H3=>JC σ3 H3 (fun b H4=>if b=true then A σ3 H4 else B σ3 H4)):=by
 show if true=true then A (σ.set i (some x)) H else B (σ.set i (some x)) H
 rw[if_pos rfl]
 exact h
theorem aJ {H H1:Hp} {p:Addr} {o:HO} (e:upd H p o=H1) (h:H p=none):aM H H1/\H1 p=some o:=by
 subst e
 exact⟨au h _,aj⟩
theorem aR {xs:List V} {k:Nat} {v:V} (h:xs[k]? = some v):atI xs (k:Int)=some v:=iG h
theorem d9 {ns:List Int} {k:Nat} {n:Int} (h:ns[k]? = some n):(ns.map V.int)[k]? = some (.int n):=by rw[Qn,h]; rfl
theorem tT {σ:St} {H:Hp} {A B:Hp->Prop} (h:A H):JC σ H (fun b H4=>if b=true then A H4 else B H4):=by
 show if true=true then A H else B H
 rw[if_pos rfl]
 exact h
theorem nJ:∀ ns:List Int,n8 (ns.map Dm.int)=0
 | []=>by simp [n8]
 | n::r=>by simp [n8,Dm.dep,nJ r]
theorem jC {H:Hp} {a:Addr} {ns:List Int} (h:H a=some (.tup (ns.map V.int))) (l:ns.length<=1000):Rep H (.ref a) (.tup (ns.map Dm.int)):=.tup h (by rw[Py]; lia) (nR ns)
theorem vU (ns:List Int):(Dm.tup (ns.map Dm.int)).dep=1:=by rw[Dm.dep,nJ]
def vN (i:Nat):V:=.int (i:Int)
theorem eG (c:List Nat):c.map vN=(c.map fun i:Nat=>(i:Int)).map V.int:=by rw[RQ]; rfl
theorem sJ {c:List Nat} {j:Nat} {x:V} (h:(c.map vN)[j]? = some x):∃ i,c[j]? = some i/\x=vN i:=by
 rw[Qn] at h
 cases e:c[j]? with
 | none=>rw[e] at h; cases h
 | some i=>rw[e] at h; exact⟨i,rfl,(QJ h).symm⟩
theorem bR {H:Hp} {D:Addr} {zs zs':List V} (h:H D=some (.lst zs)):∀ a xs,H a=some (HO.tup xs)->upd H D (.lst zs') a=some (HO.tup xs):=fun a xs q=>by
 rw[bx (fun z=>by rw[z,h] at q; cases q)]
 exact q
theorem Li {α:Type} {xs:List α} {v:α} (h:xs[xs.length - 1]? = some v):atI xs (-1)=some v:=by
 have hl:xs.length - 1 < xs.length:=(List.getElem?_eq_some_iff.mp h).1
 have hne:xs≠[]:=fun z=>by rw[z] at hl; exact absurd hl (S8 _)
 have e:xs=xs.dropLast++[v]:=by
  rw[← List.getLast?_eq_getElem?,List.getLast?_eq_some_getLast hne] at h
  rw[← QJ h]
  exact (List.dropLast_concat_getLast hne).symm
 rw[e]
 exact Eo _ _
abbrev jk:Stmt:=top 28
theorem bV:aW ["_law_cell_here","_law_parts","_law_one","_law_two","_law_six","_law_found","_law_part"] ["_law_cell_here","_law_parts"] (aH jk):=⟨rfl,rfl,rfl,by decide+kernel,rfl,by decide+kernel,by decide+kernel⟩
def pP (c:Int):Int:=(c * 48271+11) % 2147483647
def Fe (c:Int):Int:=(pP c * pP c+40692 * pP c+c) % 2147483399
def Nh (c:Int):Int:=(Fe c * 16807+pP c) % 1000000007
def j7 (c:Int):Int:=if decide ((if c < 0 then -c else c) < 10 ^ (18:Int).toNat)=true then Fe c+2147483399 * (Nh c+1000000007 * pP c) else (if c < 0 then -c else c) - 10 ^ (18:Int).toNat
def uy:Int->List Int->List Int
 | _,[]=>[]
 | c,p::ps=>c % p::uy (c / p) ps
def divC:Int->List Int->Int
 | c,[]=>c
 | c,p::ps=>divC (c / p) ps
theorem nA (p:Int):∀ (ps:List Int) (c:Int),uy c (ps++[p])=uy c ps++[divC c ps % p]
 | [],_=>rfl
 | q::ps,c=>by
  show c % q::uy (c / q) (ps++[p])=c % q::(uy (c / q) ps++[divC (c / q) ps % p])
  rw[nA p ps]
theorem jH (p:Int):∀ (ps:List Int) (c:Int),divC c (ps++[p])=divC c ps / p
 | [],_=>rfl
 | q::ps,c=>jH p ps (c / q)
theorem dM:∀ (ps:List Int) (c:Int),(uy c ps).length=ps.length
 | [],_=>rfl
 | _::ps,_=>congrArg Nat.succ (dM ps _)
theorem bL:∀ {ps:List Int} {c:Int} {i:Nat} {p:Int},(∀ q∈ps,0 < q)->ps[i]? = some p->∃ v,(uy c ps)[i]? = some v/\0<=v/\v < p
 | [],_,_,_,_,h=>by simp at h
 | q::ps,c,0,p,hp,h=>by
  cases (show some q=some p from h)
  exact⟨c % q,rfl,Rn _ (by have:=hp q Qa; lia),QT _ (hp q Qa)⟩
 | q::ps,c,i+1,p,hp,h=>by
  obtain⟨v,e,r⟩:=bL (ps:=ps) (c:=c / q) (i:=i) (fun z hz=>hp z (Qg _ hz)) (by simpa using h)
  exact⟨v,by simpa [uy] using e,r⟩
def tU (c:Int) (ps:List Int):List Int:=uy (j7 c) ps
theorem Ka (c:Int):0<=pP c/\pP c < 2147483647:=⟨Rn _ (by decide),QT _ (by decide)⟩
theorem Jp (c:Int):0<=Fe c/\Fe c < 2147483399:=⟨Rn _ (by decide),QT _ (by decide)⟩
inductive xO (K:Qu) (vs:List V) (H:Hp) (Q:VK):Prop where
 | mk (c:Int) (p:Addr) (ps:List Int) (z0:vs=[.int c,.ref p]) (z1:SqL K H p (ps.map V.int)) (z2:(∀ q∈ps,0 < q/\q < 1073741824)) (z3:ps.length<=1000) (z4:∀ r,H r=none->Q (.ref r) (upd H r (.lst ((tU c ps).map V.int)))):xO K vs H Q
def jc (K:Qu):Sp:=fun vs H Q _=>xO K vs H Q
theorem tO (F:Fun K "_law_draws" "_law_draws" jk f fd) (B:Bt mg) :
  fj P w K mg base CX0 1 f fd ["_law_cell_here","_law_parts"] (jc K):=by
 refine F.ok bV (fun vs H Q E h=>?_) (fun cdv A outer s H vs Q E hr h=>?_)
 ·obtain⟨c,p,ps,rfl,_⟩:=h
  rfl
 ·obtain⟨c,p,ps,rfl,hS,hp,hl,q⟩:=h
  refine⟨_,(aA (bZ (aV Af (aL jF rfl B.abs_ ud (aa (pv 0) aq)) (aO mX aB aB) (bf _)) (aA (aU (i:=2) bV.nd rfl (Qm rfl) (aO cV (aO bT (aO gM (pv 0) aB) aB) aB))
 (aA (aU (i:=3) bV.nd rfl (Qm rfl) (aO cV (aO bT (aO bT (aO gM (pv 2) (pv 2)) (aO gM aB (pv 2))) (pv 0)) aB))
 (aA (aU (i:=4) bV.nd rfl (Qm rfl) (aO cV (aO bT (aO gM (pv 3) aB) (pv 2)) aB))
 (aC (aU (i:=0) bV.nd rfl (Qm rfl) (aO bT (pv 3) (aO gM aB (aO bT (pv 4) (aO gM aB (pv 2)))))))))) (aC (aU (i:=0) bV.nd rfl (Qm rfl) (aO nj (aL jF rfl B.abs_ ud (aa (pv 0) aq)) (aO mX aB aB)))))
 (aA (aU (i:=5) bV.nd rfl (Qm rfl) (bK aq))
 (aA (gK Rt rfl (dX (pv 1)) (aG (i:=6) bV.nd rfl (Qm rfl)) (aA (gf (j8 QH Rq Rp cP (pv 5) (aa (aO cV (pv 0) (pv 6)) aq)))
 (aC (aU (i:=0) bV.nd rfl (Qm rfl) (aO vJ (pv 0) (pv 6))))))
 (aC (aK (pv 5)))))),?_⟩
  have b1:=Ka c
  have b2:=Jp c
  refine⟨_,rfl,_,rfl,_,_,rfl,rfl,⟨by decide,by decide,by decide⟩,_,_,rfl,rfl,_,rfl,?_⟩
  refine yS (fun h=>?_) (fun h=>?_)
  ·refine⟨_,rfl,_,_,rfl,rfl,.inr ⟨by decide,by decide⟩,_,_,rfl,rfl,_,_,rfl,rfl,(by show (0:Int) < 2147483647; decide),?_⟩
   refine⟨_,rfl,_,rfl,_,_,rfl,rfl,.inl (show -(2 ^ 64) < pP c/\pP c < 2 ^ 64 from ⟨by lia,by lia⟩),_,rfl,_,_,rfl,rfl,.inl ⟨by decide,by decide⟩,_,_,rfl,rfl,_,rfl,_,_,rfl,rfl,_,_,rfl,rfl,(by show (0:Int) < 2147483399; decide),?_⟩
   refine⟨_,rfl,_,_,rfl,rfl,.inr ⟨by decide,by decide⟩,_,rfl,_,_,rfl,rfl,_,_,rfl,rfl,(by show (0:Int) < 1000000007; decide),?_⟩
   refine⟨_,rfl,_,rfl,_,rfl,_,_,rfl,rfl,.inl ⟨by decide,by decide⟩,_,_,rfl,rfl,_,_,rfl,rfl,.inl ⟨by decide,by decide⟩,_,_,rfl,rfl,?_⟩
   refine⟨small (QB _),fun r hr0=>?_⟩
   refine⟨_,rfl,p,rfl,⟨_,(au hr0 _).seq hS⟩,mj (K:=K) (a:=p) (xs:=ps.map V.int) (fun i σ H2=>∃ (z:Int) (o t u v:Option V),z=divC (j7 c) (ps.take i)/\σ=[some (.int z),some (.ref p),o,t,u,some (.ref r),v] ∧
    H2=upd H r (.lst ((uy (j7 c) (ps.take i)).map V.int))) ⟨_,_,_,_,_,(if_pos h).symm,rfl,rfl⟩ ?_ ?_ ?_⟩
   ·rintro i σ H2 hi ⟨z,o,t,u,v,_,_,e⟩
    subst e
    exact (au hr0 _).seq hS
   ·rintro i x σ H2 hx ⟨z,o,t,u,v,ez,rfl,rfl⟩
    obtain⟨d,hd,rfl⟩:=int_at hx
    obtain⟨h1,h2⟩:=hp d (Qy hd)
    have et:ps.take (i+1)=ps.take i++[d]:=by rw[QF,hd]; rfl
    refine⟨_,rfl,.inl ⟨rfl,_,SqL.of aj⟩,_,rfl,_,rfl,_,_,rfl,rfl,h1,r,_,_,rfl,rfl,aj,?_,_,rfl,_,rfl,_,_,rfl,rfl,⟨h1,h2⟩,_,_,_,_,_,?_,rfl,?_⟩
    ·rw[Py,dM,Ql]
     exact aD (by lia)
    ·rw[et,jH,ez]
    ·rw[zT,et,nA,PQ,ez]
     rfl
   ·rintro σ H2 ⟨z,o,t,u,v,_,rfl,rfl⟩
    refine⟨_,rfl,?_⟩
    have q':=q r hr0
    rw[Py,Qk]
    exact q'
  ·refine⟨_,rfl,_,rfl,_,_,rfl,rfl,⟨by decide,by decide,by decide⟩,_,_,rfl,rfl,?_⟩
   refine⟨small (QB _),fun r hr0=>?_⟩
   refine⟨_,rfl,p,rfl,⟨_,(au hr0 _).seq hS⟩,mj (K:=K) (a:=p) (xs:=ps.map V.int) (fun i σ H2=>∃ (z:Int) (o t u v:Option V),z=divC (j7 c) (ps.take i)/\σ=[some (.int z),some (.ref p),o,t,u,some (.ref r),v] ∧
    H2=upd H r (.lst ((uy (j7 c) (ps.take i)).map V.int))) ⟨_,_,_,_,_,(if_neg h).symm,rfl,rfl⟩ ?_ ?_ ?_⟩
   ·rintro i σ H2 hi ⟨z,o,t,u,v,_,_,e⟩
    subst e
    exact (au hr0 _).seq hS
   ·rintro i x σ H2 hx ⟨z,o,t,u,v,ez,rfl,rfl⟩
    obtain⟨d,hd,rfl⟩:=int_at hx
    obtain⟨h1,h2⟩:=hp d (Qy hd)
    have et:ps.take (i+1)=ps.take i++[d]:=by rw[QF,hd]; rfl
    refine⟨_,rfl,.inl ⟨rfl,_,SqL.of aj⟩,_,rfl,_,rfl,_,_,rfl,rfl,h1,r,_,_,rfl,rfl,aj,?_,_,rfl,_,rfl,_,_,rfl,rfl,⟨h1,h2⟩,_,_,_,_,_,?_,rfl,?_⟩
    ·rw[Py,dM,Ql]
     exact aD (by lia)
    ·rw[et,jH,ez]
    ·rw[zT,et,nA,PQ,ez]
     rfl
   ·rintro σ H2 ⟨z,o,t,u,v,_,rfl,rfl⟩
    refine⟨_,rfl,?_⟩
    have q':=q r hr0
    rw[Py,Qk]
    exact q'
abbrev j5:Stmt:=top 27
theorem uP:aW ["_law_script","_law_k"] ["_law_script","_law_k"] (aH j5):=⟨rfl,rfl,rfl,by decide+kernel,rfl,by decide+kernel,by decide+kernel⟩
inductive Bd (K:Qu) (vs:List V) (H:Hp) (Q:VK):Prop where
 | mk (a:Addr) (ns:List Int) (k:Nat) (z0:vs=[.ref a,.int (k:Int)]) (z1:SqL K H a (ns.map V.int)) (z2:Q (.int (ns.getD k 0)) H):Bd K vs H Q
def xT (K:Qu):Sp:=fun vs H Q _=>Bd K vs H Q
theorem vh (F:Fun K "_law_cell" "_law_cell" j5 f fd) (B:Bt mg) :
  fj P w K mg base CX0 1 f fd ["_law_script","_law_k"] (xT K):=by
 refine F.ok uP (fun vs H Q E h=>?_) (fun cdv A outer s H vs Q E hr h=>?_)
 ·obtain⟨a,ns,k,rfl,_⟩:=h
  rfl
 ·obtain⟨a,ns,k,rfl,hS,q⟩:=h
  refine⟨_,(aA (bZ (aV Af (pv 1) (aL (r:=yg K) cC rfl B.len_ ie (aa (pv 0) aq)) (bf _)) (aC (aK (bh (r:=gq K) aQ (pv 0) (pv 1) (fun _ _=>rfl)))) aX)
 (aC (aK aB))),?_⟩
  refine⟨_,rfl,_,rfl,a,_,rfl,.inl hS,_,_,rfl,rfl,_,rfl,?_⟩
  have el:(((ns.map V.int).length:Nat):Int)=(ns.length:Int):=by rw[Py]
  rw[el]
  refine yS (fun c=>?_) (fun c=>?_)
  ·have c':(k:Int) < (ns.length:Int):=of_decide_eq_true c
   have hk:k < ns.length:=by lia
   refine⟨_,rfl,_,rfl,a,_,_,_,rfl,rfl,hS,o6 hk,?_⟩
   rw[PL,PJ hk] at q
   exact q
  ·have c':¬ (k:Int) < (ns.length:Int):=fun z=>c (decide_eq_true z)
   have hk:ns.length<=k:=by lia
   rw[PL,Rk hk] at q
   exact q
abbrev iJ:Stmt:=top 37
theorem pQ:aW ["_law_cell_here","_law_n","_law_most"] ["_law_cell_here","_law_n","_law_most"] (aH iJ):=⟨rfl,rfl,rfl,by decide+kernel,rfl,by decide+kernel,by decide+kernel⟩
def Kv (c:Int) (n:Nat) (m:Int):List Int:=tU c (Qh n (m+1))
theorem jn (c:Int) (n:Nat) (m:Int):(Kv c n m).length=n:=by
 unfold Kv tU
 rw[dM,Rj]
theorem Ex {c:Int} {n:Nat} {m:Int} (hm:0<=m) {i:Nat} (hi:i < n):∃ v,(Kv c n m)[i]? = some v/\0<=v/\v<=m:=by
 obtain⟨v,e,b1,b2⟩:=bL (ps:=Qh n (m+1)) (c:=j7 c) (i:=i) (p:=m+1) (fun q hq=>by rw[List.mem_replicate] at hq; lia) (by rw[T9,if_pos hi])
 exact⟨v,e,b1,by lia⟩
inductive sY (vs:List V) (H:Hp) (Q:VK):Prop where
 | mk (c:Int) (n:Nat) (m:Int) (z0:vs=[.int c,.int (n:Int),.int m]) (z1:n<=1000) (z2:0<=m) (z3:m<=1000000) (z4:∀ (r:Addr) (H':Hp),aM H H'->H r=none->H' r=some (.tup ((Kv c n m).map V.int))->Q (.ref r) H'):sY  vs H Q
def xf:Sp:=fun vs H Q _=>sY  vs H Q
theorem qL (z:Int) (n:Nat):(Qh n [V.int z]).flatten=(Qh n z).map V.int:=by
 induction n with
 | zero=>rfl
 | succ n ih=>rw[Su,Vm,ih,Su]; rfl
theorem ql (F:Fun K "_law_giving" "_law_giving" iJ f fd) (B:Bt mg)
  (D_law_draws:Df P w K mg base "_law_draws" 1 ["_law_cell_here","_law_parts"] (jc K)):fj P w K mg base CX0 2 f fd ["_law_cell_here","_law_n","_law_most"] xf:=by
 refine F.ok pQ (fun vs H Q E h=>?_) (fun cdv A outer s H vs Q E hr h=>?_)
 ·obtain⟨c,n,m,rfl,_⟩:=h
  rfl
 ·obtain⟨c,n,m,rfl,hn,h0,h1,q⟩:=h
  refine⟨_,(aC (aK (bG (r:=fC K) bB rfl B.tuple_ bQ (aa (aY D_law_draws hr (aa (pv 0) (aa (aO GF (bK (aa (aO bT (pv 2) aB) aq)) (pv 1)) aq))) aq)))),?_⟩
  refine⟨_,rfl,_,rfl,_,_,rfl,rfl,small (by show 1<=1000; decide),fun p1 h1'=>?_⟩
  generalize eH1:upd H p1 _=H1
  obtain⟨g1,e1⟩:=aJ eH1 h1'
  have et:((n:Int)).toNat=n:=QC n
  refine⟨_,rfl,p1,_,_,rfl,rfl,e1,by lia,by lia,?_,fun p2 h2=>?_⟩
  ·rw[et]
   show 1 * n<=sizeLine
   exact small (by lia)
  rw[et,qL]
  generalize eH2:upd H1 p2 _=H2
  obtain⟨g2,e2⟩:=aJ eH2 h2
  refine⟨c,p2,Qh n (m+1),rfl,SqL.of e2,fun z hz=>?_,?_,fun p3 h3=>?_⟩
  ·rw[List.mem_replicate] at hz
   lia
  ·rw[Rj]
   exact hn
  generalize eH3:upd H2 p3 _=H3
  obtain⟨g3,e3⟩:=aJ eH3 h3
  refine⟨p3,_,rfl,.inl ⟨SqL.of e3,fun p4 h4=>?_⟩⟩
  exact q p4 _ (g1.trans (g2.trans (g3.trans (au h4 _)))) ((g1.trans (g2.trans g3)).free h4) aj
abbrev jR:Stmt:=top 29
theorem uQ:aW ["_law_found","_law_due"] ["_law_found","_law_due"] (aH jR):=⟨rfl,rfl,rfl,by decide+kernel,rfl,by decide+kernel,by decide+kernel⟩
inductive Ak (n:Nat) (vs:List V) (H:Hp) (Q:VK):Prop where
 | mk (x y:V) (d:Dm) (z0:vs=[x,y]) (z1:Rep H x d) (z2:Rep H y d) (z3:d.dep < n) (z4:∀ H',aM H H'->Q (.bl true) H'):Ak n vs H Q
def pD (n:Nat):Sp:=fun vs H Q _=>Ak n vs H Q
theorem Nf {x:V}:decide (x=x)=true:=decide_eq_true rfl
theorem wR (n:Nat):(Qh n true).all (fun b=>b)=true:=by
 induction n with
 | zero=>rfl
 | succ n ih=>rw[Su,Vv,ih]; rfl
theorem wL (n:Nat):(Qh n true).map V.bl=Qh n (V.bl true):=List.map_replicate
theorem gY {n:Nat} (F:Fun K "_law_same" "_law_same" jR f fd) (B:Bt mg)
  (D_law_same:Df P w K mg base "_law_same" n ["_law_found","_law_due"] (pD n)):fj P w K mg base CX0 (n+1) f fd ["_law_found","_law_due"] (pD (n+1)):=by
 refine F.ok uQ (fun vs H Q E h=>?_) (fun cdv A outer s H vs Q E hr h=>?_)
 ·obtain⟨x,y,d,rfl,_⟩:=h
  rfl
 ·obtain⟨x,y,d,rfl,rx,ry,hd,q⟩:=h
  refine⟨_,(aA (bZ (BV (G8 (pv 1))) (aC (aK (KJ (G8 (pv 0))))) aX)
 (aA (bZ (iH (aL (r:=Bc K) eN rfl B.isinstance_ bF (aa (pv 1) (aa (oE B.str_ Hj) aq)))) (aC (aK (xF (aL (r:=Bc K) eN rfl B.isinstance_ bF (aa (pv 0) (aa (oE B.str_ Hj) aq))) (CJ (f9 gO (pv 0) (pv 1) (bf _)))))) aX)
 (aA (bZ (iH (aL (r:=Bc K) eN rfl B.isinstance_ bF (aa (pv 1) (aa (oE B.int_ BL) aq)))) (aC (aK (xF (aL (r:=Bc K) eN rfl B.isinstance_ bF (aa (pv 0) (aa (oE B.int_ BL) aq))) (xF (f9 gO (aL (r:=Bc K) eN rfl B.isinstance_ bF (aa (pv 0) (aa (oE B.bool_ CW) aq))) (aL (r:=Bc K) eN rfl B.isinstance_ bF (aa (pv 1) (aa (oE B.bool_ CW) aq))) (bf _)) (CJ (f9 gO (pv 0) (pv 1) (bf _))))))) aX)
 (aA (bZ (PW.pt (NP (aV Js (aL (r:=Bc K) eN rfl B.isinstance_ bF (aa (pv 1) (aa (oE B.list_ vg) aq))) (aL (r:=Bc K) eN rfl B.isinstance_ bF (aa (pv 0) (aa (oE B.list_ vg) aq))) (bf _)) (K3 (aV Js (aL (r:=Bc K) eN rfl B.isinstance_ bF (aa (pv 1) (aa (oE B.tuple_ bQ) aq))) (aL (r:=Bc K) eN rfl B.isinstance_ bF (aa (pv 0) (aa (oE B.tuple_ bQ) aq))) (bf _))))) (aC (aK jA)) aX)
 (aC (aK (xF (f9 gO (aL (r:=yg K) cC rfl B.len_ ie (aa (pv 0) aq)) (aL (r:=yg K) cC rfl B.len_ ie (aa (pv 1) aq)) (bf _)) (CJ (aL (r:=JW K) (sW rfl) rfl B.all_ GJ (aa (bA (L:=["_law_k"]) (F:=["_law_found","_law_due"]) (cap:=[0,1]) rfl (bj rfl rfl (by kernel_rfl)) (cL rfl B.range_ (aa (aL (r:=yg K) cC rfl B.len_ ie (aa (pv 1) aq)) aq)) (fun _ _ _ _ _=>(aG (i:=0) (aP (by decide+kernel)) rfl (Qm rfl))) (fun _ _ _ _ _=>bC) (fun _ _ _ _ _=>(aY D_law_same hr (aa (bh (r:=rIx K) HD (pv 1) (pv 0) (fun _ _=>rfl)) (aa (bh (r:=rIx K) HD (pv 2) (pv 0) (fun _ _=>rfl)) aq))))) aq)))))))))),?_⟩
  cases rx with
  | non =>
   cases ry
   refine⟨_,rfl,_,rfl,jw ?_⟩
   exact⟨_,rfl,q H (aM.refl H)⟩
  | bl b =>
   cases ry
   refine⟨_,rfl,_,rfl,gG ?_⟩
   refine⟨_,rfl,_,_,_,_,rfl,.bl b,vf _,_,rfl,gG ?_⟩
   refine⟨_,rfl,_,_,_,_,rfl,.bl b,nG _,_,rfl,jw ?_⟩
   refine⟨_,rfl,_,_,_,_,rfl,.bl b,nG _,_,rfl,jw ?_⟩
   refine⟨_,rfl,_,_,_,_,rfl,.bl b,oO _ _,_,rfl,_,_,_,_,rfl,.bl b,oO _ _,rfl,_,rfl,jw ?_⟩
   refine⟨_,rfl,_,rfl,rfl,?_⟩
   have q':=q H (aM.refl H)
   rw[← Nf (x:=V.bl b)] at q'
   exact q'
  | int i =>
   cases ry
   refine⟨_,rfl,_,rfl,gG ?_⟩
   refine⟨_,rfl,_,_,_,_,rfl,.int i,yP _,_,rfl,gG ?_⟩
   refine⟨_,rfl,_,_,_,_,rfl,.int i,oO _ _,_,rfl,jw ?_⟩
   refine⟨_,rfl,_,_,_,_,rfl,.int i,oO _ _,_,rfl,jw ?_⟩
   refine⟨_,rfl,_,_,_,_,rfl,.int i,mW _,_,rfl,_,_,_,_,rfl,.int i,mW _,rfl,_,rfl,jw ?_⟩
   refine⟨_,rfl,_,rfl,rfl,?_⟩
   have q':=q H (aM.refl H)
   rw[← Nf (x:=V.int i)] at q'
   exact q'
  | str z =>
   cases ry
   refine⟨_,rfl,_,rfl,gG ?_⟩
   refine⟨_,rfl,_,_,_,_,rfl,.str z,oO _ _,_,rfl,jw ?_⟩
   refine⟨_,rfl,_,_,_,_,rfl,.str z,oO _ _,_,rfl,jw ?_⟩
   refine⟨_,rfl,_,rfl,rfl,?_⟩
   have q':=q H (aM.refl H)
   rw[← Nf (x:=V.str z)] at q'
   exact q'
  | @tup a xs ds ha la ra =>
   cases ry with
   | @tup b ys _ hb lb rb =>
    have ex:=ra.length
    have ey:=rb.length
    have hdl:n8 ds < n:=by
     have hd':n8 ds+1 < n+1:=by rw[Dm.dep] at hd; exact hd
     lia
    refine⟨_,rfl,_,rfl,gG ?_⟩
    refine⟨_,rfl,_,_,_,_,rfl,.tup hb,sH _,_,rfl,gG ?_⟩
    refine⟨_,rfl,_,_,_,_,rfl,.tup hb,rH _,_,rfl,gG ?_⟩
    refine⟨_,rfl,_,_,_,_,rfl,.tup hb,jL _,_,rfl,_,_,_,_,rfl,.tup ha,jL _,rfl,_,rfl,gG ?_⟩
    refine⟨_,rfl,_,_,_,_,rfl,.tup hb,oO _ _,_,rfl,_,_,_,_,rfl,.tup ha,oO _ _,rfl,_,rfl,gG ?_⟩
    refine⟨_,rfl,a,_,rfl,.inr (SqT.of ha),_,rfl,b,_,rfl,.inr (SqT.of hb),rfl,_,rfl,?_⟩
    have ec:decide (V.int (xs.length:Int)=V.int (ys.length:Int))=true:=decide_eq_true (by rw[ex,ey])
    rw[ec]
    refine jw ?_
    refine⟨_,rfl,b,_,rfl,.inr (SqT.of hb),_,rfl,by lia,by lia,fun D hD=>dw (lo:=0) (n:=ys.length) (fun i zs σ' H2=>(∃ v,σ'=[v,some (.ref a),some (.ref b)])/\zs=Qh i (V.bl true)/\aM H H2/\H2 D=some (.lst zs))
     ⟨⟨_,rfl⟩,rfl,au hD _,aj⟩ (fun i zs σ' H2 _ h=>h.2.2.2) ?_ ?_⟩
    ·rintro i zs σ' H2 hi ⟨⟨v,rfl⟩,rfl,sm,hDl⟩
     obtain⟨v1,d1,e1,e2,r1⟩:=ra.get (i:=i) (by lia)
     obtain⟨v2,d2,e3,e4,r2⟩:=rb.get (i:=i) hi
     rw[e2] at e4
     cases e4
     have at1:atI xs (0+(i:Int))=some v1:=by rw[Tu]; exact iG e1
     have at2:atI ys (0+(i:Int))=some v2:=by rw[Tu]; exact iG e3
     refine gT ?_
     refine⟨_,rfl,_,rfl,.inr (.inl ⟨a,xs,_,v1,rfl,rfl,SqT.of (sm _ _ ha),at1,_,rfl,_,rfl,.inr (.inl ⟨b,ys,_,v2,rfl,rfl,SqT.of (sm _ _ hb),at2,v1,v2,d1,rfl,r1.mono sm,r2.mono sm,?_,fun H3 s3=>⟨s3 _ _ hDl,?_,⟨_,rfl⟩,?_,aF (sm.trans s3) hD _,aj⟩⟩)⟩)⟩
     ·exact Uh (qe e2) hdl
     ·rw[Rj]
      exact Qp (show i < 100000 by lia) (by decide)
     ·rw[WY]
    ·rintro zs σ' H2 ⟨_,rfl,sm,hDl⟩
     refine⟨D,Qh ys.length true,rfl,SqL.of (by rw[hDl,wL]),?_⟩
     rw[wR]
     exact q _ sm
  | @lst a xs ds ha la ra =>
   cases ry with
   | @lst b ys _ hb lb rb =>
    have ex:=ra.length
    have ey:=rb.length
    have hdl:n8 ds < n:=by
     have hd':n8 ds+1 < n+1:=by rw[Dm.dep] at hd; exact hd
     lia
    refine⟨_,rfl,_,rfl,gG ?_⟩
    refine⟨_,rfl,_,_,_,_,rfl,.lst hb,uA _,_,rfl,gG ?_⟩
    refine⟨_,rfl,_,_,_,_,rfl,.lst hb,uT _,_,rfl,gG ?_⟩
    refine⟨_,rfl,_,_,_,_,rfl,.lst hb,oO _ _,_,rfl,_,_,_,_,rfl,.lst ha,oO _ _,rfl,_,rfl,gG ?_⟩
    refine⟨_,rfl,_,_,_,_,rfl,.lst hb,jG _,_,rfl,_,_,_,_,rfl,.lst ha,jG _,rfl,_,rfl,gG ?_⟩
    refine⟨_,rfl,a,_,rfl,.inl (SqL.of ha),_,rfl,b,_,rfl,.inl (SqL.of hb),rfl,_,rfl,?_⟩
    have ec:decide (V.int (xs.length:Int)=V.int (ys.length:Int))=true:=decide_eq_true (by rw[ex,ey])
    rw[ec]
    refine jw ?_
    refine⟨_,rfl,b,_,rfl,.inl (SqL.of hb),_,rfl,by lia,by lia,fun D hD=>dw (lo:=0) (n:=ys.length) (fun i zs σ' H2=>(∃ v,σ'=[v,some (.ref a),some (.ref b)])/\zs=Qh i (V.bl true)/\aM H H2/\H2 D=some (.lst zs))
     ⟨⟨_,rfl⟩,rfl,au hD _,aj⟩ (fun i zs σ' H2 _ h=>h.2.2.2) ?_ ?_⟩
    ·rintro i zs σ' H2 hi ⟨⟨v,rfl⟩,rfl,sm,hDl⟩
     obtain⟨v1,d1,e1,e2,r1⟩:=ra.get (i:=i) (by lia)
     obtain⟨v2,d2,e3,e4,r2⟩:=rb.get (i:=i) hi
     rw[e2] at e4
     cases e4
     have at1:atI xs (0+(i:Int))=some v1:=by rw[Tu]; exact iG e1
     have at2:atI ys (0+(i:Int))=some v2:=by rw[Tu]; exact iG e3
     refine gT ?_
     refine⟨_,rfl,_,rfl,.inl ( ⟨a,xs,_,v1,rfl,rfl,SqL.of (sm _ _ ha),at1,_,rfl,_,rfl,.inl ( ⟨b,ys,_,v2,rfl,rfl,SqL.of (sm _ _ hb),at2,v1,v2,d1,rfl,r1.mono sm,r2.mono sm,?_,fun H3 s3=>⟨s3 _ _ hDl,?_,⟨_,rfl⟩,?_,aF (sm.trans s3) hD _,aj⟩⟩)⟩)⟩
     ·exact Uh (qe e2) hdl
     ·rw[Rj]
      exact Qp (show i < 100000 by lia) (by decide)
     ·rw[WY]
    ·rintro zs σ' H2 ⟨_,rfl,sm,hDl⟩
     refine⟨D,Qh ys.length true,rfl,SqL.of (by rw[hDl,wL]),?_⟩
     rw[wR]
     exact q _ sm
theorem same_none:fj P w K mg base CX0 0 f fd ["_law_found","_law_due"] (pD 0):=by
 have no:∀ vs H Q E,¬ pD 0 vs H Q E:=fun vs H Q E h=>by
  obtain⟨x,y,d,_,_,_,h1,_⟩:=h
  lia
 exact⟨fun vs H Q E h=>absurd h (no vs H Q E),fun A outer s H args us vs Q E _ _ _ _ h=>absurd h (no vs H Q E)⟩
abbrev jh:Stmt:=top 30
theorem fY:aW ["_law_cell_here","_law_k","_law_rest","_law_turn"] ["_law_cell_here","_law_k"] (aH jh):=⟨rfl,rfl,rfl,by decide+kernel,rfl,by decide+kernel,by decide+kernel⟩
def Jo (c:Int) (k:Nat):Int:=if decide ((if c < 0 then -c else c) < 10 ^ (18:Int).toNat)=true then (c * 48271+7919 * (k:Int)+13) % 2147483647 else 10 ^ (18:Int).toNat+divC ((if c < 0 then -c else c) - 10 ^ (18:Int).toNat) (Qh (k+1) (10 ^ (9:Int).toNat))
inductive wW (vs:List V) (H:Hp) (Q:VK):Prop where
 | mk (c:Int) (k:Nat) (z0:vs=[.int c,.int (k:Int)]) (z1:k<=1000) (z2:Q (.int (Jo c k)) H):wW  vs H Q
def qt:Sp:=fun vs H Q _=>wW  vs H Q
theorem tG (F:Fun K "_law_under" "_law_under" jh f fd) (B:Bt mg) :
  fj P w K mg base CX0 1 f fd ["_law_cell_here","_law_k"] qt:=by
 refine F.ok fY (fun vs H Q E h=>?_) (fun cdv A outer s H vs Q E hr h=>?_)
 ·obtain⟨c,k,rfl,_⟩:=h
  rfl
 ·obtain⟨c,k,rfl,hk,q⟩:=h
  refine⟨_,(aA (bZ (aV Af (aL jF rfl B.abs_ ud (aa (pv 0) aq)) (aO mX aB aB) (bf _)) (aC (aK (aO cV (aO bT (aO bT (aO gM (pv 0) aB) (aO gM aB (pv 1))) aB) aB))) aX)
 (aA (aU (i:=2) fY.nd rfl (Qm rfl) (aO nj (aL jF rfl B.abs_ ud (aa (pv 0) aq)) (aO mX aB aB)))
 (aA (gK Rt rfl (cL rfl B.range_ (aa (aO bT (pv 1) aB) aq)) (aG (i:=3) fY.nd rfl (Qm rfl)) (aC (aU (i:=2) fY.nd rfl (Qm rfl) (aO vJ (pv 2) (aO mX aB aB)))))
 (aC (aK (aO bT (aO mX aB aB) (pv 2))))))),?_⟩
  refine⟨_,rfl,_,rfl,_,_,rfl,rfl,⟨by decide,by decide,by decide⟩,_,_,rfl,rfl,_,rfl,?_⟩
  refine yS (fun h=>?_) (fun h=>?_)
  ·refine⟨_,rfl,_,_,rfl,rfl,.inr ⟨by decide,by decide⟩,_,rfl,_,_,rfl,rfl,.inl ⟨by decide,by decide⟩,_,_,rfl,rfl,_,_,rfl,rfl,_,_,rfl,rfl,(by show (0:Int) < 2147483647; decide),?_⟩
   unfold Jo at q
   rw[if_pos h] at q
   exact q
  ·unfold Jo at q
   rw[if_neg h] at q
   refine⟨_,rfl,_,rfl,_,_,rfl,rfl,⟨by decide,by decide,by decide⟩,_,_,rfl,rfl,?_⟩
   have ek:((k:Int)+1).toNat=k+1:=by lia
   refine⟨_,rfl,_,_,rfl,rfl,_,rfl,by lia,by lia,iI (lo:=0) (n:=((k:Int)+1).toNat) (fun i σ H2=>(∃ t:Option V,σ=[some (.int c),some (.int (k:Int)),some (.int (divC ((if c < 0 then -c else c) - 10 ^ (18:Int).toNat) (Qh i (10 ^ (9:Int).toNat)))),t])/\H2=H) ⟨⟨_,rfl⟩,rfl⟩ ?_ ?_⟩
   ·rintro i σ H2 hi ⟨⟨t,rfl⟩,rfl⟩
    refine⟨_,rfl,_,_,rfl,rfl,⟨by decide,by decide,by decide⟩,_,_,rfl,rfl,⟨by show (0:Int) < 10 ^ 9; decide,by show (10 ^ 9:Int) < 1073741824; decide⟩,⟨some (.int (0+(i:Int))),?_⟩,rfl⟩
    rw[WY,jH]
    rfl
   ·rintro σ H2 ⟨⟨t,rfl⟩,rfl⟩
    refine⟨_,_,rfl,rfl,⟨by decide,by decide,by decide⟩,_,rfl,_,_,rfl,rfl,?_⟩
    rw[ek]
    exact q
abbrev jf:Stmt:=top 31
theorem fW:aW ["_law_number","_law_n","_law_found","_law_one"] ["_law_number","_law_n"] (aH jf):=⟨rfl,rfl,rfl,by decide+kernel,rfl,by decide+kernel,by decide+kernel⟩
inductive wG (vs:List V) (H:Hp) (Q:VK):Prop where
 | mk (m:Int) (n:Nat) (z0:vs=[.int m,.int (n:Int)]) (z1:n<=100) (z2:∀ (c:List Nat) (r:Addr) (H':Hp),(∀ i∈c,i < n)->c.Pairwise (· < ·)->c.length<=n->aM H H'->H r=none->H' r=some (.tup (c.map vN))->Q (.ref r) H'):wG  vs H Q
def vP:Sp:=fun vs H Q _=>wG  vs H Q
theorem rF (F:Fun K "_law_crowd" "_law_crowd" jf f fd) (B:Bt mg) :
  fj P w K mg base CX0 1 f fd ["_law_number","_law_n"] vP:=by
 refine F.ok fW (fun vs H Q E h=>?_) (fun cdv A outer s H vs Q E hr h=>?_)
 ·obtain⟨m,n,rfl,_⟩:=h
  rfl
 ·obtain⟨m,n,rfl,hn,q⟩:=h
  refine⟨_,(aA (aU (i:=2) fW.nd rfl (Qm rfl) (bK aq))
 (aA (gK Rt rfl (cL rfl B.range_ (aa (pv 1) aq)) (aG (i:=3) fW.nd rfl (Qm rfl)) (aA (bZ (aV gO (aO cV (pv 0) aB) aB (bf _)) (aC (gf (j8 QH Rq Rp cP (pv 2) (aa (pv 3) aq)))) aX)
 (aC (aU (i:=0) fW.nd rfl (Qm rfl) (aO vJ (pv 0) aB)))))
 (aC (aK (bG (r:=fC K) bB rfl B.tuple_ bQ (aa (pv 2) aq)))))),?_⟩
  refine⟨small (by show 0<=1000; decide),fun r hr0=>?_⟩
  have en:((n:Int)).toNat=n:=QC n
  refine⟨_,rfl,_,rfl,by lia,by lia,iI (lo:=0) (n:=((n:Int)).toNat) (fun i σ H2=>∃ (z:Int) (t:Option V) (c:List Nat),σ=[some (.int z),some (.int (n:Int)),some (.ref r),t]/\H2=upd H r (.lst (c.map vN))/\(∀ j∈c,j < i)/\c.Pairwise (· < ·)/\c.length<=i)
   ⟨_,_,[],rfl,rfl,by simp,by simp,PX _⟩ ?_ ?_⟩
  ·rintro i σ H2 hi ⟨z,t,c,rfl,rfl,hc,hp,hl⟩
   refine⟨_,rfl,_,_,rfl,rfl,(by show (0:Int) < 2; decide),rfl,_,rfl,?_⟩
   refine yS (fun _=>?_) (fun _=>?_)
   ·refine⟨_,rfl,.inl ⟨rfl,_,SqL.of aj⟩,_,rfl,r,_,_,rfl,rfl,aj,?_,_,rfl,_,_,rfl,rfl,⟨by decide,by decide⟩,_,_,c++[i],rfl,?_,?_,?_,?_⟩
    ·rw[Py]
     exact aD (by lia)
    ·rw[zT,PQ,Tu]
     rfl
    ·intro j hj
     rcases List.mem_append.mp hj with h | h
     ·have:=hc j h
      lia
     ·have:=List.mem_singleton.mp h
      lia
    ·rw[List.pairwise_append]
     refine⟨hp,by simp,fun a ha b hb=>?_⟩
     rw[List.mem_singleton.mp hb]
     exact hc a ha
    ·rw[Qj]
     show c.length+1<=i+1
     lia
   ·refine⟨_,rfl,_,_,rfl,rfl,⟨by decide,by decide⟩,_,_,c,rfl,rfl,fun j hj=>RB (hc j hj),hp,by lia⟩
  ·rintro σ H2 ⟨z,t,c,rfl,rfl,hc,hp,hl⟩
   refine⟨_,rfl,r,_,rfl,.inl ⟨SqL.of aj,fun l hl'=>?_⟩⟩
   rw[en] at hc hl
   exact q c l _ hc hp hl ((au hr0 _).trans (au hl' _)) ((au hr0 _).free hl') aj
inductive Tm where
 | free | never | gives (i:Nat) (k:Int) | sum (c:List Nat) (k:Int) | crowd (c:List Nat) (k m:Int) | all (ts:List Tm) | any (ts:List Tm)
mutual
def Tm.dep:Tm->Nat
 | .all ts=>tdL ts+1
 | .any ts=>tdL ts+1
 | _=>1
def tdL:List Tm->Nat
 | []=>0
 | t::r=>max t.dep (tdL r)
end
mutual
def hF (g:List Int):Tm->Bool
 | .free=>true
 | .never=>false
 | .gives i k=>decide (k<=g.getD i 0)
 | .sum c k=>decide (k<=(c.map fun i=>g.getD i 0).sum)
 | .crowd c k m=>decide (m<=((c.filter fun i=>decide (k<=g.getD i 0)).length:Int))
 | .all ts=>lR g ts
 | .any ts=>lW g ts
def lR (g:List Int):List Tm->Bool
 | []=>true
 | t::r=>hF g t && lR g r
def lW (g:List Int):List Tm->Bool
 | []=>false
 | t::r=>hF g t || lW g r
end
mutual
inductive iY (n:Nat) (H:Hp):V->Tm->Prop where
 | free {a:Addr}:H a=some (.tup [.str "free"])->iY n H (.ref a) .free
 | never {a:Addr}:H a=some (.tup [.str "never"])->iY n H (.ref a) .never
 | gives {a:Addr} {i:Nat} {k:Int}:H a=some (.tup [.str "gives",vN i,.int k])->i < n->1<=k->k<=9->iY n H (.ref a) (.gives i k)
 | sum {a b:Addr} {c:List Nat} {k:Int}:H a=some (.tup [.str "sum",.ref b,.int k])->H b=some (.tup (c.map vN))->(∀ i∈c,i < n)->c.Pairwise (· < ·)->c.length<=20->2<=c.length->1<=k->k<=99->iY n H (.ref a) (.sum c k)
 | crowd {a b:Addr} {c:List Nat} {k m:Int}:H a=some (.tup [.str "crowd",.ref b,.int k,.int m])->H b=some (.tup (c.map vN))->(∀ i∈c,i < n)->c.Pairwise (· < ·)->c.length<=20->1<=c.length->1<=k->k<=9->1<=m->m<=12->iY n H (.ref a) (.crowd c k m)
 | all {a b:Addr} {vs:List V} {ts:List Tm}:H a=some (.tup [.str "all",.ref b])->H b=some (.tup vs)->2<=vs.length->vs.length<=6->c7 n H vs ts->iY n H (.ref a) (.all ts)
 | any {a b:Addr} {vs:List V} {ts:List Tm}:H a=some (.tup [.str "any",.ref b])->H b=some (.tup vs)->2<=vs.length->vs.length<=6->c7 n H vs ts->iY n H (.ref a) (.any ts)
inductive c7 (n:Nat) (H:Hp):List V->List Tm->Prop where
 | nil:c7 n H [] []
 | cons {v:V} {t:Tm} {vs:List V} {ts:List Tm}:iY n H v t->c7 n H vs ts->c7 n H (v::vs) (t::ts)
end
mutual
theorem iY.bu {n:Nat} {H H':Hp} (e:∀ a xs,H a=some (HO.tup xs)->H' a=some (HO.tup xs)):∀ {v:V} {t:Tm},iY n H v t->iY n H' v t
 | _,_,.free h=>.free (e _ _ h)
 | _,_,.never h=>.never (e _ _ h)
 | _,_,.gives h a b c=>.gives (e _ _ h) a b c
 | _,_,.sum h h2 a b c d f g=>.sum (e _ _ h) (e _ _ h2) a b c d f g
 | _,_,.crowd h h2 a b c d f g i j=>.crowd (e _ _ h) (e _ _ h2) a b c d f g i j
 | _,_,.all h h2 a b r=>.all (e _ _ h) (e _ _ h2) a b (c7.bu e r)
 | _,_,.any h h2 a b r=>.any (e _ _ h) (e _ _ h2) a b (c7.bu e r)
theorem c7.bu {n:Nat} {H H':Hp} (e:∀ a xs,H a=some (HO.tup xs)->H' a=some (HO.tup xs)):∀ {vs:List V} {ts:List Tm},c7 n H vs ts->c7 n H' vs ts
 | _,_,.nil=>.nil
 | _,_,.cons h r=>.cons (iY.bu e h) (c7.bu e r)
end
theorem iY.mono {n:Nat} {H H':Hp} (e:aM H H') {v:V} {t:Tm} (h:iY n H v t):iY n H' v t:=h.bu fun a xs q=>e a _ q
theorem c7.mono {n:Nat} {H H':Hp} (e:aM H H') {vs:List V} {ts:List Tm} (h:c7 n H vs ts):c7 n H' vs ts:=h.bu fun a xs q=>e a _ q
theorem c7.length {n:Nat} {H:Hp}:∀ {vs:List V} {ts:List Tm},c7 n H vs ts->vs.length=ts.length
 | _,_,.nil=>rfl
 | _,_,.cons _ r=>by rw[Qo,Qo,c7.length r]
theorem c7.get {n:Nat} {H:Hp}:∀ {vs:List V} {ts:List Tm} {i:Nat} {v:V},c7 n H vs ts->vs[i]? = some v->∃ t,ts[i]? = some t/\iY n H v t
 | _,_,_,_,.nil,h=>by simp at h
 | _,_,0,_,.cons h _,e=>by
  cases (show some _=some _ from e)
  exact⟨_,rfl,h⟩
 | _,_,i+1,_,.cons _ r,e=>by
  obtain⟨t,e1,e2⟩:=c7.get (i:=i) r (by simpa using e)
  exact⟨t,by simpa using e1,e2⟩
theorem c7.snoc {n:Nat} {H:Hp}:∀ {vs:List V} {ts:List Tm} {v:V} {t:Tm},c7 n H vs ts->iY n H v t->c7 n H (vs++[v]) (ts++[t])
 | _,_,_,_,.nil,h=>.cons h .nil
 | _,_,_,_,.cons a r,h=>.cons a (c7.snoc r h)
theorem mQ:∀ {ts:List Tm} {i:Nat} {t:Tm},ts[i]? = some t->t.dep<=tdL ts
 | [],_,_,h=>by simp at h
 | d::r,0,_,h=>by
  cases (show some d=some _ from h)
  rw[tdL]
  exact Nat.le_max_left _ _
 | d::r,i+1,_,h=>by
  rw[tdL]
  exact Q6 (mQ (i:=i) (ts:=r) (by simpa using h)) (Nat.le_max_right _ _)
theorem v9 {m:Nat} {t:Tm} (h:t.dep<=m):∀ {ts:List Tm},tdL ts<=m->tdL (ts++[t])<=m
 | [],_=>by simp only[WQ,tdL]; lia
 | d::r,h2=>by
  rw[tdL] at h2
  rw[List.cons_append,tdL]
  have:=v9 (m:=m) h (ts:=r) (by lia)
  lia
theorem Tm.zR:∀ t:Tm,1<=t.dep
 | .free | .never | .gives .. | .sum .. | .crowd ..=>PX 1
 | .all ts=>by rw[Tm.dep]; lia
 | .any ts=>by rw[Tm.dep]; lia
theorem tZ:∀ {g:List Int} {ts:List Tm} {i:Nat} {t:Tm},ts[i]? = some t->lR g (ts.take (i+1))=(lR g (ts.take i) && hF g t)
 | _,[],_,_,h=>by simp at h
 | g,d::r,0,t,h=>by
  cases (show some d=some _ from h)
  rw[TJ,lR,Ry,Ry,lR,Bool.and_true,Bool.true_and]
 | g,d::r,i+1,t,h=>by
  rw[TJ,lR,tZ (i:=i) (ts:=r) (by simpa using h),TJ,lR,Bool.and_assoc]
theorem sV:∀ {g:List Int} {ts:List Tm} {i:Nat} {t:Tm},ts[i]? = some t->lW g (ts.take (i+1))=(lW g (ts.take i) || hF g t)
 | _,[],_,_,h=>by simp at h
 | g,d::r,0,t,h=>by
  cases (show some d=some _ from h)
  rw[TJ,lW,Ry,Ry,lW,Bool.or_false,W9]
 | g,d::r,i+1,t,h=>by
  rw[TJ,lW,sV (i:=i) (ts:=r) (by simpa using h),TJ,lW,Bool.or_assoc]
theorem oY:∀ {g:List Int} {ts:List Tm} {i:Nat} {t:Tm},ts[i]? = some t->hF g t=false->lR g ts=false
 | _,[],_,_,h,_=>by simp at h
 | g,d::r,0,t,h,e=>by
  cases (show some d=some _ from h)
  rw[lR,e,Bool.false_and]
 | g,d::r,i+1,t,h,e=>by rw[lR,oY (i:=i) (ts:=r) (by simpa using h) e,Bool.and_false]
theorem sI:∀ {g:List Int} {ts:List Tm} {i:Nat} {t:Tm},ts[i]? = some t->hF g t=true->lW g ts=true
 | _,[],_,_,h,_=>by simp at h
 | g,d::r,0,t,h,e=>by
  cases (show some d=some _ from h)
  rw[lW,e,Bool.true_or]
 | g,d::r,i+1,t,h,e=>by rw[lW,sI (i:=i) (ts:=r) (by simpa using h) e,Bool.or_true]
def LeG (g g':List Int):Prop:=∀ i,g.getD i 0<=g'.getD i 0
theorem oW (f f':Nat->Int) (h:∀ i,f i<=f' i):∀ c:List Nat,(c.map f).sum<=(c.map f').sum
 | []=>RC _
 | i::c=>by
  have:=oW f f' h c
  have:=h i
  simp only[QM,S9]
  lia
theorem filter_le (f f':Nat->Bool) (h:∀ i,f i=true->f' i=true):∀ c:List Nat,(c.filter f).length<=(c.filter f').length
 | []=>PX _
 | i::c=>by
  have ih:=filter_le f f' h c
  rw[Sx,Sx]
  by_cases e:f i=true
  ·rw[if_pos e,if_pos (h i e),Qo,Qo]
   lia
  ·rw[if_neg e]
   split
   ·rw[Qo]
    lia
   ·exact ih
mutual
theorem uM {g g':List Int} (l:LeG g g'):∀ t:Tm,hF g t=true->hF g' t=true
 | .free,_=>by rw[hF]
 | .never,h=>by rw[hF] at h; cases h
 | .gives i k,h=>by
  rw[hF] at h ⊢
  have:=of_decide_eq_true h
  have:=l i
  exact decide_eq_true (by lia)
 | .sum c k,h=>by
  rw[hF] at h ⊢
  have:=of_decide_eq_true h
  have:=oW _ _ l c
  exact decide_eq_true (by lia)
 | .crowd c k m,h=>by
  rw[hF] at h ⊢
  have:=of_decide_eq_true h
  have:=filter_le (fun i=>decide (k<=g.getD i 0)) (fun i=>decide (k<=g'.getD i 0)) (fun i e=>decide_eq_true (Int.le_trans (of_decide_eq_true e) (l i))) c
  exact decide_eq_true (by lia)
 | .all ts,h=>by
  rw[hF] at h ⊢
  exact uw l ts h
 | .any ts,h=>by
  rw[hF] at h ⊢
  exact uq l ts h
theorem uw {g g':List Int} (l:LeG g g'):∀ ts:List Tm,lR g ts=true->lR g' ts=true
 | [],_=>by rw[lR]
 | t::r,h=>by
  rw[lR,Rz] at h
  rw[lR,uM l t h.1,uw l r h.2]
  rfl
theorem uq {g g':List Int} (l:LeG g g'):∀ ts:List Tm,lW g ts=true->lW g' ts=true
 | [],h=>by rw[lW] at h; cases h
 | t::r,h=>by
  rw[lW,Yd] at h
  rw[lW]
  rcases h with h | h
  ·rw[uM l t h,Bool.true_or]
  ·rw[uq l r h,Bool.or_true]
end
theorem lF {c A B:Prop} [Decidable c] (hc:¬ c) (h:B):if decide c=true then A else B:=by
 rw[decide_eq_false hc]
 exact gG h
theorem Ko {c A B:Prop} [Decidable c] (hc:c) (h:A):if decide c=true then A else B:=by
 rw[decide_eq_true hc]
 exact jw h
theorem cg {a b:Rx} (h:a≠b):¬ V.str a=V.str b:=fun z=>h (by cases z; rfl)
theorem atD {g:List Int} {i:Nat} (h:i < g.length):atI (g.map V.int) (i:Int)=some (.int (g.getD i 0)):=by
 rw[o6 h,PL,PJ h]
 rfl
abbrev lr:Stmt:=top 3
abbrev jg:Stmt:=top 4
abbrev uG:Stmt:=top 5
theorem nZ:aW ["parts","giving","part"] ["parts","giving"] (aH lr):=⟨rfl,rfl,rfl,by decide+kernel,rfl,by decide+kernel,by decide+kernel⟩
theorem lM:aW ["parts","giving","part"] ["parts","giving"] (aH jg):=⟨rfl,rfl,rfl,by decide+kernel,rfl,by decide+kernel,by decide+kernel⟩
theorem xM:aW ["term","giving","kind"] ["term","giving"] (aH uG):=⟨rfl,rfl,rfl,by decide+kernel,rfl,by decide+kernel,by decide+kernel⟩
inductive xW (K:Qu) (d:Nat) (vs:List V) (H:Hp) (Q:VK):Prop where
 | mk (v:V) (g:Addr) (n:Nat) (t:Tm) (ns:List Int) (z0:vs=[v,.ref g]) (z1:iY n H v t) (z2:t.dep<=d) (z3:SqT K H g (ns.map V.int)) (z4:n<=ns.length) (z5:∀ H',aM H H'->Q (.bl (hF ns t)) H'):xW K d vs H Q
def ju (K:Qu) (d:Nat):Sp:=fun vs H Q _=>xW K d vs H Q
inductive zW (K:Qu) (d:Nat) (vs:List V) (H:Hp) (Q:VK):Prop where
 | mk (b g:Addr) (n:Nat) (us:List V) (ts:List Tm) (ns:List Int) (z0:vs=[.ref b,.ref g]) (z1:H b=some (.tup us)) (z2:c7 n H us ts) (z3:tdL ts<=d) (z4:SqT K H g (ns.map V.int)) (z5:n<=ns.length) (z6:∀ H',aM H H'->Q (.bl (lR ns ts)) H'):zW K d vs H Q
def Gs (K:Qu) (d:Nat):Sp:=fun vs H Q _=>zW K d vs H Q
inductive Ab (K:Qu) (d:Nat) (vs:List V) (H:Hp) (Q:VK):Prop where
 | mk (b g:Addr) (n:Nat) (us:List V) (ts:List Tm) (ns:List Int) (z0:vs=[.ref b,.ref g]) (z1:H b=some (.tup us)) (z2:c7 n H us ts) (z3:tdL ts<=d) (z4:SqT K H g (ns.map V.int)) (z5:n<=ns.length) (z6:∀ H',aM H H'->Q (.bl (lW ns ts)) H'):Ab K d vs H Q
def GD (K:Qu) (d:Nat):Sp:=fun vs H Q _=>Ab K d vs H Q
theorem yx:fj P w K mg base CX0 0 f fd ["term","giving"] (ju K 0):=by
 have no:∀ vs H Q E,¬ ju K 0 vs H Q E:=fun vs H Q E h=>by
  obtain⟨v,g,n,t,ns,_,_,h1,_⟩:=h
  have:=t.zR
  lia
 exact⟨fun vs H Q E h=>absurd h (no vs H Q E),fun A outer s H args us vs Q E _ _ _ _ h=>absurd h (no vs H Q E)⟩
theorem gW {d k:Nat} (F:Fun K "all_hold" "all_hold" lr f fd) (B:Bt mg)
  (D_holds:Df P w K mg base "holds" k ["term","giving"] (ju K d)):fj P w K mg base CX0 (k+1) f fd ["parts","giving"] (Gs K d):=by
 refine F.ok nZ (fun vs H Q E h=>?_) (fun cdv A outer s H vs Q E hr h=>?_)
 ·obtain⟨b,g,n,us,ts,ns,rfl,_⟩:=h
  rfl
 ·obtain⟨b,g,n,us,ts,ns,rfl,hb,rp,hd,hg,hn,q⟩:=h
  refine⟨_,(aA (gK Rt rfl (iU (pv 0)) (aG (i:=2) nZ.nd rfl (Qm rfl)) (aC (bZ (o5 (iH (aY D_holds hr (aa (pv 2) (aa (pv 1) aq))))) (aC (aK jA)) aX)))
 (aC (aK jA))),?_⟩
  have el:=rp.length
  refine⟨_,rfl,b,rfl,⟨_,SqT.of hb⟩,uK (K:=K) (a:=b) (xs:=us) (fun i σ H2=>(∃ u,σ=[some (.ref b),some (.ref g),u])/\aM H H2/\lR ns (ts.take i)=true) ⟨⟨_,rfl⟩,aM.refl H,by rw[Ry,lR]⟩ (fun i σ H2 _ h=>jE h.2.1 (SqT.of hb)) ?_ ?_⟩
  ·rintro i x σ H2 hx ⟨⟨u,rfl⟩,sm,ab⟩
   obtain⟨t,ht,rt⟩:=rp.get hx
   refine⟨_,rfl,_,rfl,x,g,n,t,ns,rfl,rt.mono sm,Q6 (mQ ht) hd,jE sm hg,hn,fun H3 s3=>⟨_,rfl,?_⟩⟩
   cases e:hF ns t with
   | false =>
    have q':=q H3 (sm.trans s3)
    rw[oY ht e] at q'
    exact jw q'
   | true=>exact gG ⟨⟨_,rfl⟩,sm.trans s3,by rw[tZ ht,ab,e]; rfl⟩
  ·rintro σ H2 ⟨⟨u,rfl⟩,sm,ab⟩
   have q':=q H2 sm
   rw[el,Qk] at ab
   rw[ab] at q'
   exact q'
theorem fX {d k:Nat} (F:Fun K "any_holds" "any_holds" jg f fd) (B:Bt mg)
  (D_holds:Df P w K mg base "holds" k ["term","giving"] (ju K d)):fj P w K mg base CX0 (k+1) f fd ["parts","giving"] (GD K d):=by
 refine F.ok lM (fun vs H Q E h=>?_) (fun cdv A outer s H vs Q E hr h=>?_)
 ·obtain⟨b,g,n,us,ts,ns,rfl,_⟩:=h
  rfl
 ·obtain⟨b,g,n,us,ts,ns,rfl,hb,rp,hd,hg,hn,q⟩:=h
  refine⟨_,(aA (gK Rt rfl (iU (pv 0)) (aG (i:=2) lM.nd rfl (Qm rfl)) (aC (bZ (iH (aY D_holds hr (aa (pv 2) (aa (pv 1) aq)))) (aC (aK jA)) aX)))
 (aC (aK jA))),?_⟩
  have el:=rp.length
  refine⟨_,rfl,b,rfl,⟨_,SqT.of hb⟩,uK (K:=K) (a:=b) (xs:=us) (fun i σ H2=>(∃ u,σ=[some (.ref b),some (.ref g),u])/\aM H H2/\lW ns (ts.take i)=false) ⟨⟨_,rfl⟩,aM.refl H,by rw[Ry,lW]⟩ (fun i σ H2 _ h=>jE h.2.1 (SqT.of hb)) ?_ ?_⟩
  ·rintro i x σ H2 hx ⟨⟨u,rfl⟩,sm,ab⟩
   obtain⟨t,ht,rt⟩:=rp.get hx
   refine⟨_,rfl,_,rfl,x,g,n,t,ns,rfl,rt.mono sm,Q6 (mQ ht) hd,jE sm hg,hn,fun H3 s3=>⟨_,rfl,?_⟩⟩
   cases e:hF ns t with
   | true =>
    have q':=q H3 (sm.trans s3)
    rw[sI ht e] at q'
    exact jw q'
   | false=>exact gG ⟨⟨_,rfl⟩,sm.trans s3,by rw[sV ht,ab,e]; rfl⟩
  ·rintro σ H2 ⟨⟨u,rfl⟩,sm,ab⟩
   have q':=q H2 sm
   rw[el,Qk] at ab
   rw[ab] at q'
   exact q'
theorem lZ {d k:Nat} (F:Fun K "holds" "holds" uG f fd) (B:Bt mg)
  (D_all_hold:Df P w K mg base "all_hold" k ["parts","giving"] (Gs K d)) (D_any_holds:Df P w K mg base "any_holds" k ["parts","giving"] (GD K d)):fj P w K mg base CX0 (k+1) f fd ["term","giving"] (ju K (d+1)):=by
 refine F.ok xM (fun vs H Q E h=>?_) (fun cdv A outer s H vs Q E hr h=>?_)
 ·obtain⟨v,g,n,t,ns,rfl,_⟩:=h
  rfl
 ·obtain⟨v,g,n,t,ns,rfl,rt,hd,hg,hn,q⟩:=h
  refine⟨_,(aA (aU (i:=2) xM.nd rfl (Qm rfl) (bh (r:=jP K) bW (pv 0) aB (fun _ _=>rfl)))
 (aA (bZ (aV gO (pv 2) cH (bf _)) (aC (aK (f9 yj (bh (r:=jP K) bW (pv 1) (bh (r:=jP K) bW (pv 0) aB (fun _ _=>rfl)) (fun _ _=>rfl)) (bh (r:=jP K) bW (pv 0) aB (fun _ _=>rfl)) (bf _)))) aX)
 (aA (bZ (aV gO (pv 2) cH (bf _)) (aC (aK (f9 yj (aL (r:=K4 K) (Ar rfl) rfl B.sum_ MK (aa (bA (L:=["one"]) (F:=["giving"]) (cap:=[1]) rfl (bj rfl rfl (by kernel_rfl)) (iU (bh (r:=jP K) bW (pv 0) aB (fun _ _=>rfl))) (fun _ _ _ _ _=>(aG (i:=0) (aP (by decide+kernel)) rfl (Qm rfl))) (fun _ _ _ _ _=>bC) (fun _ _ _ _ _=>(bh (r:=jP K) bW (pv 1) (pv 0) (fun _ _=>rfl)))) aq)) (bh (r:=jP K) bW (pv 0) aB (fun _ _=>rfl)) (bf _)))) aX)
 (aA (bZ (aV gO (pv 2) cH (bf _)) (aC (aK (f9 yj (aL (r:=yg K) cC rfl B.len_ ie (aa (bA (L:=["one"]) (F:=["giving","term"]) (cap:=[1,0]) rfl (bj rfl rfl (by kernel_rfl)) (iU (bh (r:=jP K) bW (pv 0) aB (fun _ _=>rfl))) (fun _ _ _ _ _=>(aG (i:=0) (aP (by decide+kernel)) rfl (Qm rfl))) (fun _ _ _ _ _=>(vR (aV yj (bh (r:=jP K) bW (pv 1) (pv 0) (fun _ _=>rfl)) (bh (r:=jP K) bW (pv 2) aB (fun _ _=>rfl)) (bf _)))) (fun _ _ _ _ _=>(pv 0))) aq)) (bh (r:=jP K) bW (pv 0) aB (fun _ _=>rfl)) (bf _)))) aX)
 (aA (bZ (aV gO (pv 2) cH (bf _)) (aC (aK (aY D_all_hold hr (aa (bh (r:=jP K) bW (pv 0) aB (fun _ _=>rfl)) (aa (pv 1) aq))))) aX)
 (aA (bZ (aV gO (pv 2) cH (bf _)) (aC (aK (aY D_any_holds hr (aa (bh (r:=jP K) bW (pv 0) aB (fun _ _=>rfl)) (aa (pv 1) aq))))) aX)
 (aC (aK (f9 gO (pv 2) cH (bf _)))))))))),?_⟩
  cases rt with
  | @free a ha =>
   refine⟨_,rfl,a,_,_,_,rfl,rfl,SqT.of ha,aR (k:=0) rfl,?_⟩
   refine⟨_,rfl,rfl,_,rfl,lF (cg (by decide)) ?_⟩
   refine⟨_,rfl,rfl,_,rfl,lF (cg (by decide)) ?_⟩
   refine⟨_,rfl,rfl,_,rfl,lF (cg (by decide)) ?_⟩
   refine⟨_,rfl,rfl,_,rfl,lF (cg (by decide)) ?_⟩
   refine⟨_,rfl,rfl,_,rfl,lF (cg (by decide)) ?_⟩
   refine⟨_,rfl,rfl,?_⟩
   have q':=q H (aM.refl H)
   rw[hF] at q'
   rw[decide_eq_true rfl]
   exact q'
  | @never a ha =>
   refine⟨_,rfl,a,_,_,_,rfl,rfl,SqT.of ha,aR (k:=0) rfl,?_⟩
   refine⟨_,rfl,rfl,_,rfl,lF (cg (by decide)) ?_⟩
   refine⟨_,rfl,rfl,_,rfl,lF (cg (by decide)) ?_⟩
   refine⟨_,rfl,rfl,_,rfl,lF (cg (by decide)) ?_⟩
   refine⟨_,rfl,rfl,_,rfl,lF (cg (by decide)) ?_⟩
   refine⟨_,rfl,rfl,_,rfl,lF (cg (by decide)) ?_⟩
   refine⟨_,rfl,rfl,?_⟩
   have q':=q H (aM.refl H)
   rw[hF] at q'
   rw[decide_eq_false (cg (by decide))]
   exact q'
  | @gives a i k ha hi _ _ =>
   refine⟨_,rfl,a,_,_,_,rfl,rfl,SqT.of ha,aR (k:=0) rfl,?_⟩
   refine⟨_,rfl,rfl,_,rfl,Ko rfl ?_⟩
   refine⟨_,rfl,_,rfl,a,_,_,_,rfl,rfl,SqT.of ha,aR (k:=1) rfl,g,_,_,_,rfl,rfl,hg,atD (by lia),_,rfl,a,_,_,_,rfl,rfl,SqT.of ha,aR (k:=2) rfl,_,_,rfl,rfl,?_⟩
   have q':=q H (aM.refl H)
   rw[hF] at q'
   exact q'
  | @sum a b c k ha hb hc _ hl _ _ _ =>
   refine⟨_,rfl,a,_,_,_,rfl,rfl,SqT.of ha,aR (k:=0) rfl,?_⟩
   refine⟨_,rfl,rfl,_,rfl,lF (cg (by decide)) ?_⟩
   refine⟨_,rfl,rfl,_,rfl,Ko rfl ?_⟩
   refine⟨_,rfl,a,_,_,_,rfl,rfl,SqT.of ha,aR (k:=1) rfl,b,rfl,⟨_,SqT.of hb⟩,fun D hD=>fG (K:=K) (a:=b) (xs:=c.map vN) (fun i zs σ' H2=>(∃ u,σ'=[u,some (.ref g)])/\zs=((c.take i).map fun i=>ns.getD i 0).map V.int/\aM H H2/\H2 D=some (.lst zs))
    ⟨⟨_,rfl⟩,rfl,au hD _,aj⟩ (fun i zs σ' H2 _ h=>⟨jE h.2.2.1 (SqT.of hb),h.2.2.2⟩) ?_ ?_⟩
   ·rintro j zs x σ' H2 hx ⟨⟨u,rfl⟩,e1,sm,hDl⟩
    obtain⟨i,hi,rfl⟩:=sJ hx
    have hin:i < n:=hc i (Qy hi)
    refine gT ?_
    refine⟨_,rfl,_,rfl,g,_,_,_,rfl,rfl,jE sm hg,atD (by lia),hDl,?_,⟨_,rfl⟩,?_,aF sm hD _,aj⟩
    ·rw[e1,Py,Py,Ql]
     exact aD (by lia)
    ·rw[e1,QF,hi,PQ,PQ]
     rfl
   ·rintro zs σ' H2 ⟨⟨u,rfl⟩,e1,sm,hDl⟩
    rw[Py,Qk] at e1
    refine⟨D,_,rfl,SqL.of (by rw[hDl,e1]),_,rfl,a,_,_,_,rfl,rfl,SqT.of (sm _ _ ha),aR (k:=2) rfl,_,_,rfl,rfl,?_⟩
    have q':=q H2 sm
    rw[hF] at q'
    exact q'
  | @crowd a b c k m ha hb hc _ hl _ _ _ _ _ =>
   refine⟨_,rfl,a,_,_,_,rfl,rfl,SqT.of ha,aR (k:=0) rfl,?_⟩
   refine⟨_,rfl,rfl,_,rfl,lF (cg (by decide)) ?_⟩
   refine⟨_,rfl,rfl,_,rfl,lF (cg (by decide)) ?_⟩
   refine⟨_,rfl,rfl,_,rfl,Ko rfl ?_⟩
   refine⟨_,rfl,a,_,_,_,rfl,rfl,SqT.of ha,aR (k:=1) rfl,b,rfl,⟨_,SqT.of hb⟩,fun D hD=>fG (K:=K) (a:=b) (xs:=c.map vN) (fun i zs σ' H2=>(∃ u,σ'=[u,some (.ref g),some (.ref a)])/\zs=((c.take i).filter fun i=>decide (k<=ns.getD i 0)).map vN/\aM H H2/\H2 D=some (.lst zs))
    ⟨⟨_,rfl⟩,rfl,au hD _,aj⟩ (fun i zs σ' H2 _ h=>⟨jE h.2.2.1 (SqT.of hb),h.2.2.2⟩) ?_ ?_⟩
   ·rintro j zs x σ' H2 hx ⟨⟨u,rfl⟩,e1,sm,hDl⟩
    obtain⟨i,hi,rfl⟩:=sJ hx
    have hin:i < n:=hc i (Qy hi)
    have et:c.take (j+1)=c.take j++[i]:=by rw[QF,hi]; rfl
    refine⟨_,rfl,_,rfl,g,_,_,_,rfl,rfl,jE sm hg,atD (by lia),_,rfl,a,_,_,_,rfl,rfl,SqT.of (sm _ _ ha),aR (k:=2) rfl,_,_,rfl,rfl,_,rfl,?_⟩
    refine yS (fun cc=>?_) (fun cc=>?_)
    ·refine⟨_,rfl,hDl,?_,⟨_,rfl⟩,?_,aF sm hD _,aj⟩
     ·rw[e1,Py]
      have:=Tg (fun i=>decide (k<=ns.getD i 0)) (c.take j)
      rw[Ql] at this
      exact aD (by lia)
     ·rw[e1,et,Wa,PQ,Sx,if_pos cc]
      rfl
    ·refine⟨⟨_,rfl⟩,?_,sm,hDl⟩
     rw[e1,et,Wa,Sx,if_neg cc]
     simp
   ·rintro zs σ' H2 ⟨⟨u,rfl⟩,e1,sm,hDl⟩
    rw[Py,Qk] at e1
    refine⟨D,_,rfl,.inl (SqL.of (by rw[hDl,e1])),_,rfl,a,_,_,_,rfl,rfl,SqT.of (sm _ _ ha),aR (k:=3) rfl,_,_,rfl,rfl,?_⟩
    have q':=q H2 sm
    rw[hF] at q'
    rw[Py]
    exact q'
  | @all a b us ts ha hb _ _ rl =>
   refine⟨_,rfl,a,_,_,_,rfl,rfl,SqT.of ha,aR (k:=0) rfl,?_⟩
   refine⟨_,rfl,rfl,_,rfl,lF (cg (by decide)) ?_⟩
   refine⟨_,rfl,rfl,_,rfl,lF (cg (by decide)) ?_⟩
   refine⟨_,rfl,rfl,_,rfl,lF (cg (by decide)) ?_⟩
   refine⟨_,rfl,rfl,_,rfl,Ko rfl ?_⟩
   refine⟨_,rfl,a,_,_,_,rfl,rfl,SqT.of ha,aR (k:=1) rfl,_,rfl,b,g,n,us,ts,ns,rfl,hb,rl,?_,hg,hn,fun H' s'=>?_⟩
   ·rw[Tm.dep] at hd
    lia
   ·have q':=q H' s'
    rw[hF] at q'
    exact q'
  | @any a b us ts ha hb _ _ rl =>
   refine⟨_,rfl,a,_,_,_,rfl,rfl,SqT.of ha,aR (k:=0) rfl,?_⟩
   refine⟨_,rfl,rfl,_,rfl,lF (cg (by decide)) ?_⟩
   refine⟨_,rfl,rfl,_,rfl,lF (cg (by decide)) ?_⟩
   refine⟨_,rfl,rfl,_,rfl,lF (cg (by decide)) ?_⟩
   refine⟨_,rfl,rfl,_,rfl,lF (cg (by decide)) ?_⟩
   refine⟨_,rfl,rfl,_,rfl,Ko rfl ?_⟩
   refine⟨_,rfl,a,_,_,_,rfl,rfl,SqT.of ha,aR (k:=1) rfl,_,rfl,b,g,n,us,ts,ns,rfl,hb,rl,?_,hg,hn,fun H' s'=>?_⟩
   ·rw[Tm.dep] at hd
    lia
   ·have q':=q H' s'
    rw[hF] at q'
    exact q'
theorem jt {t u:TS} {D:Ends} {σ:St} {H:Hp} (P:St->Hp->Prop) (h2:∀ σ H,P σ H->u D σ H) (h1:∀ N:St->Hp->Prop,(∀ σ H,P σ H->N σ H)->t { D with nx:=N } σ H):Dy t u D σ H:=h1 (u D) h2
theorem pL {A B:TT} {t u:TS} {D:Ends} {σ:St} {H:Hp} (b1 b2:Bool) (R:Hp->Prop) (hA:∀ Q:Bool->Hp->Prop,(∀ H1,R H1->Q b1 H1)->A σ H Q) (hB:∀ H1,R H1->∀ Q:Bool->Hp->Prop,Q b2 H1->B σ H1 Q)
  (ht:∀ H1,R H1->b1=true->b2=true->t D σ H1) (hu:∀ H1,R H1->(b1=true->b2=false)->u D σ H1):FN (Ov A B) t u D σ H:=by
 refine hA _ fun H1 r1=>?_
 show if b1=true then B σ H1 (fun b H2=>if b=true then t D σ H2 else u D σ H2) else (if false=true then t D σ H1 else u D σ H1)
 cases b1 with
 | false=>exact gG (gG (hu H1 r1 fun z=>by cases z))
 | true =>
  refine jw (hB H1 r1 _ ?_)
  cases b2 with
  | false=>exact gG (hu H1 r1 fun _=>rfl)
  | true=>exact jw (ht H1 r1 rfl rfl)
theorem gN {i:Nat} {x:V} {σ:St} {H:Hp} {P:St->Hp->Prop} (h:P (σ.set i (some x)) H):Gd i x σ H P:=h
theorem nN {D:Ends} {σ:St} {H:Hp} (h:D.nx σ H):M5 D σ H:=h
abbrev kZ:Stmt:=top 32
theorem fL:aW ["_law_cell_here","_law_n","_law_deep","_law_most","_law_drawn","_law_parts","_law_crowd_here"] ["_law_cell_here","_law_n","_law_deep","_law_most"] (aH kZ):=⟨rfl,rfl,rfl,by decide+kernel,rfl,by decide+kernel,by decide+kernel⟩
inductive zP (d:Nat) (vs:List V) (H:Hp) (Q:VK):Prop where
 | mk (c:Int) (n:Nat) (deep most:Int) (z0:vs=[.int c,.int (n:Int),.int deep,.int most]) (z1:1<=n) (z2:n<=12) (z3:1<=deep) (z4:deep<=(d:Int)) (z5:1<=most) (z6:most<=9) (z7:∀ (v:V) (t:Tm) (H':Hp),aM H H'->iY n H' v t->(t.dep:Int)<=deep->Q v H'):zP d vs H Q
def pC (d:Nat):Sp:=fun vs H Q _=>zP d vs H Q
theorem term_none:fj P w K mg base CX0 1 f fd ["_law_cell_here","_law_n","_law_deep","_law_most"] (pC 0):=by
 have no:∀ vs H Q E,¬ pC 0 vs H Q E:=fun vs H Q E h=>by
  obtain⟨c,n,deep,most,_,_,_,h1,h2,_⟩:=h
  lia
 exact⟨fun vs H Q E h=>absurd h (no vs H Q E),fun A outer s H args us vs Q E _ _ _ _ h=>absurd h (no vs H Q E)⟩
theorem jm {d:Nat} (F:Fun K "_law_term" "_law_term" kZ f fd) (B:Bt mg)
  (D_law_draws:Df P w K mg base "_law_draws" 1 ["_law_cell_here","_law_parts"] (jc K)) (D_law_under:Df P w K mg base "_law_under" 1 ["_law_cell_here","_law_k"] qt) (D_law_crowd:Df P w K mg base "_law_crowd" 1 ["_law_number","_law_n"] vP)
  (D_law_term:Df P w K mg base "_law_term" (d+1) ["_law_cell_here","_law_n","_law_deep","_law_most"] (pC d)):fj P w K mg base CX0 (d+2) f fd ["_law_cell_here","_law_n","_law_deep","_law_most"] (pC (d+1)):=by
 refine F.ok fL (fun vs H Q E h=>?_) (fun cdv A outer s H vs Q E hr h=>?_)
 ·obtain⟨c,n,deep,most,rfl,_⟩:=h
  rfl
 ·obtain⟨c,n,deep,most,rfl,n1,n12,de1,ded,m1,m9,q⟩:=h
  refine⟨_,(aA (aU (i:=4) fL.nd rfl (Qm rfl) (aY D_law_draws hr (aa (pv 0) (aa (bK (aa aB (aa aB (aa aB (aa aB (aa aB aq)))))) aq))))
 (aA (bZ (PW.pt (rY (aV Af (bh (r:=gq K) aQ (pv 4) aB (fun _ _=>rfl)) aB (bf _)) (nU (aV vH (pv 2) aB (bf _))))) (aA (Bp (L:=["_law_k"]) (F:=["_law_n","_law_most","_law_cell_here","_law_deep"]) (cap:=[1,3,0,2]) (j:=5) fL.nd rfl (Qm rfl) rfl (bj rfl rfl (by kernel_rfl)) (cL rfl B.range_ (aa (aO bT aB (aO cV (bh (r:=gq K) aQ (pv 4) aB (fun _ _=>rfl)) aB)) aq)) (fun _ _ _ _ _=>(aG (i:=0) (aP (by decide+kernel)) rfl (Qm rfl))) (fun _ _ _ _ _=>bC) (fun _ _ _ _ _=>(aY D_law_term hr (aa (aY D_law_under hr (aa (pv 3) (aa (pv 0) aq))) (aa (pv 1) (aa (aO nj (pv 4) aB) (aa (pv 2) aq)))))))
 (aC (aK (bU (aa (bh (r:=gq K) aQ (bK (aa cH (aa cH aq))) (bh (r:=gq K) aQ (pv 4) aB (fun _ _=>rfl)) (fun _ _=>rfl)) (aa (bG (r:=fC K) bB rfl B.tuple_ bQ (aa (pv 5) aq)) aq)))))) aX)
 (aA (aU (i:=6) fL.nd rfl (Qm rfl) (aY D_law_crowd hr (aa (bh (r:=gq K) aQ (pv 4) aB (fun _ _=>rfl)) (aa (pv 1) aq))))
 (aA (bZ (aV (r:=Ew K) (uU hr.nu) (pv 6) (bU aq) (bf _)) (aC (aU (i:=6) fL.nd rfl (Qm rfl) (bU (aa (aO cV (bh (r:=gq K) aQ (pv 4) aB (fun _ _=>rfl)) (pv 1)) aq)))) aX)
 (aA (bZ (PW.pt (rY (aV (r:=rIn K false) jO (bh (r:=gq K) aQ (pv 4) aB (fun _ _=>rfl)) (bU (aa aB (aa aB aq))) rfl) (nU (aV vH (aL (r:=yg K) cC rfl B.len_ ie (aa (pv 6) aq)) aB (bf _))))) (aC (aK (bU (aa cH (aa (pv 6) (aa (aO bT aB (aO cV (aO bT (aO gM aB (bh (r:=gq K) aQ (pv 4) aB (fun _ _=>rfl))) (bh (r:=gq K) aQ (pv 4) aB (fun _ _=>rfl))) (aL (uv rfl) rfl B.min_ Gz (aa aB (aa (aO gM (pv 3) (aL (r:=yg K) cC rfl B.len_ ie (aa (pv 6) aq))) aq))))) aq)))))) aX)
 (aA (bZ (aV gO (bh (r:=gq K) aQ (pv 4) aB (fun _ _=>rfl)) aB (bf _)) (aC (aK (bU (aa cH (aa (pv 6) (aa (aO bT aB (aO cV (bh (r:=gq K) aQ (pv 4) aB (fun _ _=>rfl)) (pv 3))) (aa (aO bT aB (aO cV (bh (r:=gq K) aQ (pv 4) aB (fun _ _=>rfl)) (aL (r:=yg K) cC rfl B.len_ ie (aa (pv 6) aq)))) aq))))))) aX)
 (aA (bZ (aV gO (bh (r:=gq K) aQ (pv 4) aB (fun _ _=>rfl)) aB (bf _)) (aC (aK (bU (aa (bh (r:=gq K) aQ (bK (aa cH (aa cH (aa cH aq)))) (aO cV (bh (r:=gq K) aQ (pv 4) aB (fun _ _=>rfl)) aB) (fun _ _=>rfl)) aq)))) aX)
 (aC (aK (bU (aa cH (aa (aO cV (bh (r:=gq K) aQ (pv 4) aB (fun _ _=>rfl)) (pv 1)) (aa (aO bT aB (aO cV (bh (r:=gq K) aQ (pv 4) aB (fun _ _=>rfl)) (pv 3))) aq))))))))))))),?_⟩
  refine⟨_,rfl,small (by show 5<=1000; decide),fun p1 h1=>?_⟩
  generalize eH1:upd H p1 _=H1
  obtain⟨g1,e1⟩:=aJ eH1 h1
  refine⟨c,p1,[9,12,9,4096,12],rfl,SqL.of e1,by decide,by decide,fun p2 h2=>?_⟩
  generalize eH2:upd H1 p2 _=H2
  obtain⟨g2,e2⟩:=aJ eH2 h2
  have hps:∀ q∈([9,12,9,4096,12]:List Int),0 < q:=by decide
  obtain⟨d0,k0,b0⟩:=bL (c:=j7 c) (i:=0) hps rfl
  obtain⟨d1,k1,b1⟩:=bL (c:=j7 c) (i:=1) hps rfl
  obtain⟨d2,k2,b2⟩:=bL (c:=j7 c) (i:=2) hps rfl
  obtain⟨d3,k3,b3⟩:=bL (c:=j7 c) (i:=3) hps rfl
  obtain⟨d4,k4,b4⟩:=bL (c:=j7 c) (i:=4) hps rfl
  have a0:=aR (d9 k0)
  have a1:=aR (d9 k1)
  have a2:=aR (d9 k2)
  have a3:=aR (d9 k3)
  have a4:=aR (d9 k4)
  change _=some (HO.lst ((uy (j7 c) [9,12,9,4096,12]).map V.int)) at e2
  generalize uy (j7 c) [9,12,9,4096,12]=ds at *
  have gH:aM H H2:=g1.trans g2
  refine gN ?_
  dsimp only
  show Dy (FN _ _ _) _ _ _ _
  refine jt (fun σ H3=>σ=[some (.int c),some (.int (n:Int)),some (.int deep),some (.int most),some (.ref p2),none,none]/\H2=H3) ?rest (fun _ R=>?_)
  case rest =>
   rintro σ H3 ⟨rfl,rfl⟩
   refine⟨_,rfl,p2,_,_,_,rfl,rfl,SqL.of e2,a3,_,rfl,d3,n,rfl,by lia,fun cs r3 H3 hc hp hl s3 f3 e3=>?_⟩
   refine gN ?_
   dsimp only
   show Dy (FN _ _ _) _ _ _ _
   refine jt (fun σ H5=>∃ (rc:Addr) (cs:List Nat),σ=[some (.int c),some (.int (n:Int)),some (.int deep),some (.int most),some (.ref p2),none,some (.ref rc)]/\aM H2 H5/\H5 rc=some (.tup (cs.map vN))/\(∀ i∈cs,i < n)/\cs.Pairwise (· < ·)/\cs.length<=n/\1<=cs.length) ?rest2 (fun _ R=>?_)
   case rest2 =>
    rintro σ H5 ⟨rc,cs,rfl,s5,e5,hc,hp,hl,h1l⟩
    have e2':=s5 _ _ e2
    have lenr:((cs.map vN).length:Int)=(cs.length:Int):=by rw[Py]
    show Dy (FN _ _ _) _ _ _ _
    refine jt (fun σ H6=>σ=[some (.int c),some (.int (n:Int)),some (.int deep),some (.int most),some (.ref p2),none,some (.ref rc)]/\aM H5 H6) ?rest3 (fun _ R=>?_)
    case rest3 =>
     rintro σ H6 ⟨rfl,s6⟩
     have e2':=s6 _ _ e2'
     have e5:=s6 _ _ e5
     have s56:aM H H6:=gH.trans (s5.trans s6)
     refine⟨_,rfl,p2,_,_,_,rfl,rfl,SqL.of e2',a0,rfl,_,rfl,?_⟩
     refine yS (fun _=>?_) (fun _=>?_)
     ·refine⟨_,rfl,_,rfl,p2,_,_,_,rfl,rfl,SqL.of e2',a2,_,rfl,_,_,rfl,rfl,(by show (0:Int) < most; lia),_,_,rfl,rfl,?_⟩
      refine⟨_,rfl,p2,_,_,_,rfl,rfl,SqL.of e2',a4,_,rfl,rc,_,rfl,.inr (SqT.of e5),_,_,rfl,rfl,?_,_,_,rfl,rfl,small (by show 4<=1000; decide),fun p7 h7=>?_⟩
      ·rw[lenr]
       lia
      ·have u1:0<=d2 % most:=Rn _ (by lia)
       have u2:d2 % most < most:=QT _ (by lia)
       have u3:0<=d4 % ((cs.map vN).length:Int):=Rn _ (by rw[lenr]; lia)
       have u4:d4 % ((cs.map vN).length:Int) < (cs.length:Int):=by
        have:=QT d4 (b:=((cs.map vN).length:Int)) (by rw[lenr]; lia)
        rw[lenr] at this ⊢
        exact this
       refine q (.ref p7) (.crowd cs (1+d2 % most) (1+d4 % ((cs.map vN).length:Int))) _ (s56.trans (au h7 _)) (.crowd aj (au h7 _ _ _ e5) hc hp (by lia) h1l (by lia) (by lia) (by lia) (by lia)) ?_
       exact de1
     ·refine⟨_,rfl,p2,_,_,_,rfl,rfl,SqL.of e2',a0,rfl,_,rfl,?_⟩
      refine yS (fun _=>?_) (fun _=>?_)
      ·refine⟨small (by show 3<=1000; decide),fun p7 h7=>?_⟩
       generalize eH7:upd H6 p7 _=H7
       obtain⟨g7,e7⟩:=aJ eH7 h7
       have u1:0<=d1 % 3:=Rn _ (by lia)
       have u2:d1 % 3 < 3:=QT _ (by lia)
       have fin:∀ p8 (x:Rx),H7 p8=none->(x = "free"∨x = "never")->Q (.ref p8) (upd H7 p8 (.tup [.str x])):=fun p8 x h8 hx=>by
        rcases hx with rfl | rfl
        ·refine q (.ref p8) .free _ (s56.trans (g7.trans (au h8 _))) (.free aj) ?_
         exact de1
        ·refine q (.ref p8) .never _ (s56.trans (g7.trans (au h8 _))) (.never aj) ?_
         exact de1
       refine⟨_,rfl,p2,_,_,_,rfl,rfl,SqL.of (g7 _ _ e2'),a1,_,_,rfl,rfl,(by show (0:Int) < 3; decide),?_⟩
       rcases (show d1 % 3=0∨d1 % 3=1∨d1 % 3=2 by lia) with z | z | z
       ·exact⟨p7,_,_,_,rfl,rfl,SqL.of e7,by rw[z]; rfl,small (by show 1<=1000; decide),fun p8 h8=>fin p8 _ h8 (.inl rfl)⟩
       ·exact⟨p7,_,_,_,rfl,rfl,SqL.of e7,by rw[z]; rfl,small (by show 1<=1000; decide),fun p8 h8=>fin p8 _ h8 (.inl rfl)⟩
       ·exact⟨p7,_,_,_,rfl,rfl,SqL.of e7,by rw[z]; rfl,small (by show 1<=1000; decide),fun p8 h8=>fin p8 _ h8 (.inr rfl)⟩
      ·have u1:0<=d1 % (n:Int):=Rn _ (by lia)
       have u2:d1 % (n:Int) < (n:Int):=QT _ (by lia)
       have u3:0<=d2 % most:=Rn _ (by lia)
       have u4:d2 % most < most:=QT _ (by lia)
       refine⟨_,rfl,p2,_,_,_,rfl,rfl,SqL.of e2',a1,_,rfl,_,_,rfl,rfl,(by show (0:Int) < (n:Int); lia),?_⟩
       refine⟨_,rfl,p2,_,_,_,rfl,rfl,SqL.of e2',a2,_,rfl,_,_,rfl,rfl,(by show (0:Int) < most; lia),_,_,rfl,rfl,small (by show 3<=1000; decide),fun p7 h7=>?_⟩
       obtain⟨i,hi⟩:=Ua u1
       rw[hi] at u2
       refine q (.ref p7) (.gives i (1+d2 % most)) _ (s56.trans (au h7 _)) (.gives (aj.trans (by show some (HO.tup [V.str "gives",V.int (d1 % (n:Int)),V.int (1+d2 % most)])=some (HO.tup [V.str "gives",V.int (i:Int),V.int (1+d2 % most)]); rw[hi])) (by lia) (by lia) (by lia)) ?_
       exact de1
    ·refine pL (inV (.int d0) [.int 3,.int 4]) (decide (1 < (cs.length:Int))) (fun H6=>aM H5 H6) (fun Q' hQ=>?_) (fun H6 s6 Q' hQ=>?_) (fun H6 s6 _ hl2=>?_) (fun H6 s6 _=>R _ _ ⟨rfl,s6⟩)
     ·refine⟨_,rfl,p2,_,_,_,rfl,rfl,SqL.of e2',a0,small (by show 2<=1000; decide),fun p6 h6=>⟨p6,_,rfl,.inr (SqT.of aj),rfl,rfl,_,rfl,hQ _ (au h6 _)⟩⟩
     ·refine⟨_,rfl,rc,_,rfl,.inr (SqT.of (s6 _ _ e5)),_,_,rfl,rfl,_,rfl,?_⟩
      rw[lenr]
      exact hQ
     ·have e2':=s6 _ _ e2'
      have e5:=s6 _ _ e5
      have s56:aM H H6:=gH.trans (s5.trans s6)
      have hl3:(1:Int) < (cs.length:Int):=of_decide_eq_true hl2
      refine⟨_,rfl,_,rfl,p2,_,_,_,rfl,rfl,SqL.of e2',a1,_,_,rfl,rfl,.inl ⟨by decide,by decide⟩,_,rfl,p2,_,_,_,rfl,rfl,SqL.of e2',a2,_,_,rfl,rfl,?_⟩
      refine⟨_,rfl,_,rfl,rc,_,rfl,.inr (SqT.of e5),_,_,rfl,rfl,.inl ⟨by lia,by lia⟩,_,_,rfl,?_⟩
      have pz:0 < most * ((cs.map vN).length:Int):=by
       rw[lenr]
       exact Int.mul_pos (by lia) (by lia)
      generalize hz:(if most * ((cs.map vN).length:Int) < 99 then most * ((cs.map vN).length:Int) else 99)=z
      have z1:0 < z:=by
       rw[← hz]
       split <;> lia
      have z2:z<=99:=by
       rw[← hz]
       split <;> lia
      have u3:0<=(9 * d1+d2) % z:=Rn _ (by lia)
      have u4:(9 * d1+d2) % z < z:=QT _ z1
      refine⟨_,_,rfl,rfl,z1,_,_,rfl,rfl,small (by show 3<=1000; decide),fun p7 h7=>?_⟩
      refine q (.ref p7) (.sum cs (1+(9 * d1+d2) % z)) _ (s56.trans (au h7 _)) (.sum aj (au h7 _ _ _ e5) hc hp (by lia) (by lia) (by lia) (by lia)) ?_
      exact de1
   ·refine⟨_,rfl,small (by show 0<=1000; decide),fun p4 h4=>?_⟩
    have e3':SqT K H3 r3 ((cs.map fun i:Nat=>(i:Int)).map V.int):=by rw[← eG]; exact SqT.of e3
    have g4:aM H3 (upd H3 p4 (.tup [])):=au h4 _
    refine⟨r3,p4,cs.map (fun i:Nat=>(i:Int)),[],rfl,rfl,jE g4 e3',SqT.of aj,_,rfl,?_⟩
    refine yS (fun ce=>?_) (fun ce=>?_)
    ·have u1:0<=d4 % (n:Int):=Rn _ (by lia)
     have u2:d4 % (n:Int) < (n:Int):=QT _ (by lia)
     refine⟨_,rfl,p2,_,_,_,rfl,rfl,SqL.of (g4 _ _ (s3 _ _ e2)),a4,_,rfl,_,_,rfl,rfl,(by show (0:Int) < (n:Int); lia),small (by show 1<=1000; decide),fun p5 h5=>?_⟩
     obtain⟨i,hi⟩:=Ua u1
     rw[hi] at u2
     refine R _ _ ⟨p5,[i],rfl,s3.trans (g4.trans (au h5 _)),aj.trans (by show some (HO.tup [V.int (d4 % (n:Int))])=some (HO.tup [V.int (i:Int)]); rw[hi]),?_,by simp,n1,PX _⟩
     intro j hj
     rw[Ui] at hj
     lia
    ·refine R _ _ ⟨r3,cs,rfl,s3.trans g4,g4 _ _ e3,hc,hp,hl,?_⟩
     cases cs with
     | nil=>exact absurd (decide_eq_true rfl) ce
     | cons x xs=>rw[Qo]; lia
  ·refine pL (decide (d0 < 2)) (decide (1 < deep)) (fun H3=>H2=H3) (fun Q' hQ=>?_) (fun H3 e Q' hQ=>?_) (fun H3 e c1 c2=>?_) (fun H3 e _=>R _ _ ⟨rfl,e⟩)
   ·exact⟨_,rfl,p2,_,_,_,rfl,rfl,SqL.of e2,a0,_,_,rfl,rfl,_,rfl,hQ _ rfl⟩
   ·exact⟨_,rfl,_,_,rfl,rfl,_,rfl,hQ⟩
   ·subst e
    have c1:d0 < 2:=of_decide_eq_true c1
    have c2:1 < deep:=of_decide_eq_true c2
    have u1:0<=d4 % 5:=Rn _ (by lia)
    have u2:d4 % 5 < 5:=QT _ (by lia)
    refine⟨_,rfl,p2,_,_,_,rfl,rfl,SqL.of e2,a4,_,_,rfl,rfl,(by show (0:Int) < 5; decide),_,_,rfl,rfl,_,rfl,by lia,by lia,fun D hD=>dw (lo:=0) (n:=(2+d4 % 5).toNat)
     (fun i zs σ' H5=>(∃ u,σ'=[u,some (.int (n:Int)),some (.int most),some (.int c),some (.int deep)])/\aM H2 H5/\H5 D=some (.lst zs)/\zs.length=i/\∃ ts,c7 n H5 zs ts/\(tdL ts:Int)<=deep - 1)
     ⟨⟨_,rfl⟩,au hD _,aj,rfl,[],.nil,by rw[tdL]; lia⟩ (fun i zs σ' H5 _ h=>h.2.2.1) ?_ ?_⟩
    ·rintro i zs σ' H5 hi ⟨⟨u,rfl⟩,s5,eD,lz,ts,rt,td⟩
     refine gT ?_
     refine⟨_,rfl,_,rfl,c,i,by rw[Tu]; rfl,by lia,_,rfl,_,rfl,_,_,rfl,rfl,_,rfl,Jo c i,n,deep - 1,most,rfl,n1,n12,by lia,by lia,m1,m9,fun v t H6 s6 r6 d6=>?_⟩
     refine⟨s6 _ _ eD,?_,⟨_,rfl⟩,aF (s5.trans s6) hD _,aj,?_,ts++[t],?_,?_⟩
     ·exact aD (by lia)
     ·rw[Qj,lz]
      rfl
     ·have s7:=bR (zs':=zs++[v]) (s6 _ _ eD)
      exact ((rt.mono s6).bu s7).snoc (r6.bu s7)
     ·have:=v9 (m:=(deep - 1).toNat) (t:=t) (by lia) (ts:=ts) (by lia)
      lia
    ·rintro zs σ' H5 ⟨⟨u,rfl⟩,s5,eD,lz,ts,rt,td⟩
     refine⟨small (by show 2<=1000; decide),fun p6 h6=>?_⟩
     generalize eH6:upd H5 p6 _=H6
     obtain⟨g6,e6⟩:=aJ eH6 h6
     refine⟨_,rfl,p2,_,_,_,rfl,rfl,SqL.of (g6 _ _ (s5 _ _ e2)),a0,?_⟩
     rcases (show d0=0∨d0=1 by lia) with z | z
     ·subst z
      refine⟨p6,_,_,_,rfl,rfl,SqL.of e6,rfl,_,rfl,D,_,rfl,.inl ⟨SqL.of (g6 _ _ eD),fun p7 h7=>?_⟩⟩
      generalize eH7:upd H6 p7 _=H7
      obtain⟨g7,e7⟩:=aJ eH7 h7
      refine⟨small (by show 2<=1000; decide),fun p8 h8=>?_⟩
      refine q (.ref p8) (.all ts) _ (gH.trans (s5.trans (g6.trans (g7.trans (au h8 _))))) (.all aj (au h8 _ _ _ e7) (by lia) (by lia) (rt.mono (g6.trans (g7.trans (au h8 _))))) ?_
      rw[Tm.dep]
      lia
     ·subst z
      refine⟨p6,_,_,_,rfl,rfl,SqL.of e6,rfl,_,rfl,D,_,rfl,.inl ⟨SqL.of (g6 _ _ eD),fun p7 h7=>?_⟩⟩
      generalize eH7:upd H6 p7 _=H7
      obtain⟨g7,e7⟩:=aJ eH7 h7
      refine⟨small (by show 2<=1000; decide),fun p8 h8=>?_⟩
      refine q (.ref p8) (.any ts) _ (gH.trans (s5.trans (g6.trans (g7.trans (au h8 _))))) (.any aj (au h8 _ _ _ e7) (by lia) (by lia) (rt.mono (g6.trans (g7.trans (au h8 _))))) ?_
      rw[Tm.dep]
      lia
theorem Je {e:Expr} {es:List Expr} {env:Env} (h:∀ x p,e≠.Starred x p):Qz (e::es) env=(false,Tc e env)::Qz es env:=by
 rw[Qz]
 intro x p z
 exact h x p z
theorem cM {X:Cx} {e:Expr} {es:List Expr} {te:TE} {t:TA} (ha:PE X e te) (hr:PA X es t) (h:∀ x p,e≠.Starred x p:=by intro x p z; cases z):PA X (e::es) (Ib te t):=aa ha hr (Je h)
theorem Eh (ns:List Int) (lo hi:Option Int):∃ ks:List Int,Dv (ns.map V.int) lo hi=ks.map V.int/\ks.length<=ns.length:=by
 unfold Dv
 generalize HT.sIx _ _ lo=x
 generalize HT.sIx _ _ hi=y
 refine⟨(ns.drop x).take (y - x),by rw[List.map_take,List.map_drop],?_⟩
 rw[Ql,Ws]
 lia
theorem v8:∀ (ns acc:List Int),acc.Nodup->(ns.foldl R8 acc).Nodup
 | [],acc,h=>h
 | n::r,acc,h=>by
  rw[Rm]
  refine v8 r _ ?_
  unfold R8
  split
  ·exact h
  ·rename_i z
   rw[List.nodup_append]
   refine⟨h,by simp,fun a ha b hb e=>?_⟩
   rw[Ui] at hb
   subst hb
   subst e
   exact z (List.any_eq_true.mpr ⟨a,ha,beq_self_eq_true a⟩)
theorem Cu:∀ (ns acc:List Int),(ns.foldl R8 acc).length<=acc.length+ns.length
 | [],acc=>by simp
 | n::r,acc=>by
  rw[Rm]
  refine Q6 (Cu r _) ?_
  unfold R8
  split
  ·rw[Qo]; lia
  ·simp only[Qj,Qo,List.length_nil]; lia
theorem Av (ns:List Int):ddI ns=ns.foldl R8 []:=by
 unfold ddI PyProof.Rows.firstMet
 congr 1
 apply Xr
 intro i
 rw[Qn]
 by_cases h:i < ns.length
 ·rw[RM h,PJ h]
  simp [PL,PJ h]
 ·have e1:(P0 ns.length)[i]? = none:=Rk (by rw[Qs]; lia)
  rw[e1,Rk (by lia)]
  rfl
theorem jQ:∀ {a b:List Int},a.Perm b->a.Pairwise (·<=·)->b.Pairwise (·<=·)->a=b
 | [],b,p,_,_=>(List.Perm.nil_eq p)
 | x::a,[],p,_,_=>absurd p.length_eq (by simp)
 | x::a,y::b,p,ha,hb=>by
  rw[R7] at ha hb
  have h1:x<=y:=by
   rcases List.mem_cons.mp (p.mem_iff.mpr Qa) with h | h
   ·lia
   ·exact ha.1 y h
  have h2:y<=x:=by
   rcases List.mem_cons.mp (p.mem_iff.mp Qa) with h | h
   ·lia
   ·exact hb.1 x h
  have e:x=y:=by lia
  subst e
  rw[jQ (List.Perm.cons_inv p) ha.2 hb.2]
abbrev Pl:=List (Int × Tm)
inductive dD (n:Nat) (H:Hp):List V->Pl->Prop where
 | nil:dD n H [] []
 | cons {r:Addr} {k:Int} {v:V} {t:Tm} {vs:List V} {ps:Pl}:H r=some (.tup [.int k,v])->iY n H v t->dD n H vs ps->dD n H (.ref r::vs) ((k,t)::ps)
theorem dD.bu {n:Nat} {H H':Hp} (e:∀ a xs,H a=some (HO.tup xs)->H' a=some (HO.tup xs)):∀ {vs:List V} {ps:Pl},dD n H vs ps->dD n H' vs ps
 | _,_,.nil=>.nil
 | _,_,.cons h t r=>.cons (e _ _ h) (t.bu e) (dD.bu e r)
theorem dD.length {n:Nat} {H:Hp}:∀ {vs:List V} {ps:Pl},dD n H vs ps->vs.length=ps.length
 | _,_,.nil=>rfl
 | _,_,.cons _ _ r=>by rw[Qo,Qo,dD.length r]
theorem dD.get {n:Nat} {H:Hp}:∀ {vs:List V} {ps:Pl} {i:Nat} {v:V},dD n H vs ps->vs[i]? = some v->∃ r k u t,v = .ref r/\H r=some (.tup [.int k,u])/\iY n H u t/\ps[i]? = some (k,t)
 | _,_,_,_,.nil,h=>by simp at h
 | _,_,0,_,.cons h t _,e=>by
  cases (show some _=some _ from e)
  exact⟨_,_,_,_,rfl,h,t,rfl⟩
 | _,_,i+1,_,.cons _ _ r,e=>by
  obtain⟨a,k,u,t,h1,h2,h3,h4⟩:=dD.get (i:=i) r (by simpa using e)
  exact⟨a,k,u,t,h1,h2,h3,by simpa using h4⟩
theorem dD.snoc {n:Nat} {H:Hp} {r:Addr} {k:Int} {v:V} {t:Tm} (h:H r=some (.tup [.int k,v])) (ht:iY n H v t):∀ {vs:List V} {ps:Pl},dD n H vs ps->dD n H (vs++[.ref r]) (ps++[(k,t)])
 | _,_,.nil=>.cons h ht .nil
 | _,_,.cons a b c=>.cons a b (dD.snoc h ht c)
def okP (p:Pl):Prop:=p≠[]/\p.length<=9/\(p.map (·.1)).Pairwise (· < ·)/\∀ x∈p,1<=x.1/\x.1<=9/\x.2.dep<=4
def zf (n:Nat) (H:Hp) (a:Addr) (p:Pl):Prop:=okP p/\∃ vs,H a=some (.tup vs)/\dD n H vs p
theorem zf.bu {n:Nat} {H H':Hp} {a:Addr} {p:Pl} (e:∀ a xs,H a=some (HO.tup xs)->H' a=some (HO.tup xs)) (h:zf n H a p):zf n H' a p:=by
 obtain⟨ok,vs,h1,h2⟩:=h
 exact⟨ok,vs,e _ _ h1,h2.bu e⟩
theorem zf.mono {n:Nat} {H H':Hp} {a:Addr} {p:Pl} (e:aM H H') (h:zf n H a p):zf n H' a p:=h.bu fun a xs q=>e a _ q
inductive dI (n:Nat) (H:Hp):List Addr->List Pl->Prop where
 | nil:dI n H [] []
 | cons {a:Addr} {p:Pl} {as:List Addr} {ps:List Pl}:zf n H a p->dI n H as ps->dI n H (a::as) (p::ps)
theorem dI.bu {n:Nat} {H H':Hp} (e:∀ a xs,H a=some (HO.tup xs)->H' a=some (HO.tup xs)):∀ {as:List Addr} {ps:List Pl},dI n H as ps->dI n H' as ps
 | _,_,.nil=>.nil
 | _,_,.cons h r=>.cons (h.bu e) (dI.bu e r)
theorem dI.length {n:Nat} {H:Hp}:∀ {as:List Addr} {ps:List Pl},dI n H as ps->as.length=ps.length
 | _,_,.nil=>rfl
 | _,_,.cons _ r=>by rw[Qo,Qo,dI.length r]
theorem dI.get {n:Nat} {H:Hp}:∀ {as:List Addr} {ps:List Pl} {i:Nat} {a:Addr},dI n H as ps->as[i]? = some a->∃ p,ps[i]? = some p/\zf n H a p
 | _,_,_,_,.nil,h=>by simp at h
 | _,_,0,_,.cons h _,e=>by
  cases (show some _=some _ from e)
  exact⟨_,rfl,h⟩
 | _,_,i+1,_,.cons _ r,e=>by
  obtain⟨p,h1,h2⟩:=dI.get (i:=i) r (by simpa using e)
  exact⟨p,by simpa using h1,h2⟩
theorem dI.snoc {n:Nat} {H:Hp} {a:Addr} {p:Pl} (h:zf n H a p):∀ {as:List Addr} {ps:List Pl},dI n H as ps->dI n H (as++[a]) (ps++[p])
 | _,_,.nil=>.cons h .nil
 | _,_,.cons x r=>.cons x (dI.snoc h r)
inductive cI (n:Nat) (H:Hp):List V->List (List Pl)->Prop where
 | nil:cI n H [] []
 | cons {c:Addr} {as:List Addr} {ps:List Pl} {us:List V} {bs:List (List Pl)}:H c=some (.lst (as.map V.ref))->as.length<=100->dI n H as ps->cI n H us bs->cI n H (.ref c::us) (ps::bs)
theorem cI.mono {n:Nat} {H H':Hp} (e:aM H H'):∀ {us:List V} {bs:List (List Pl)},cI n H us bs->cI n H' us bs
 | _,_,.nil=>.nil
 | _,_,.cons h l p r=>.cons (e _ _ h) l (p.bu fun a xs q=>e a _ q) (cI.mono e r)
theorem cI.length {n:Nat} {H:Hp}:∀ {us:List V} {bs:List (List Pl)},cI n H us bs->us.length=bs.length
 | _,_,.nil=>rfl
 | _,_,.cons _ _ _ r=>by rw[Qo,Qo,cI.length r]
theorem cI.get {n:Nat} {H:Hp}:∀ {us:List V} {bs:List (List Pl)} {i:Nat} {u:V},cI n H us bs->us[i]? = some u->∃ c as ps,u = .ref c/\bs[i]? = some ps/\H c=some (.lst (as.map V.ref))/\as.length<=100/\dI n H as ps
 | _,_,_,_,.nil,h=>by simp at h
 | _,_,0,_,.cons h l p _,e=>by
  cases (show some _=some _ from e)
  exact⟨_,_,_,rfl,rfl,h,l,p⟩
 | _,_,i+1,_,.cons _ _ _ r,e=>by
  obtain⟨c,as,ps,h1,h2,h3⟩:=cI.get (i:=i) r (by simpa using e)
  exact⟨c,as,ps,h1,by simpa using h2,h3⟩
theorem cI.snoc {n:Nat} {H:Hp} {c:Addr} {as:List Addr} {ps:List Pl} (h:H c=some (.lst (as.map V.ref))) (hl:as.length<=100) (hp:dI n H as ps):∀ {us:List V} {bs:List (List Pl)},cI n H us bs->cI n H (us++[.ref c]) (bs++[ps])
 | _,_,.nil=>.cons h hl hp .nil
 | _,_,.cons x y z r=>.cons x y z (cI.snoc h hl hp r)
def ou (n:Nat) (H:Hp) (b:Addr) (bk:List (List Pl)):Prop:=∃ us,H b=some (.lst us)/\cI n H us bk/\bk.length<=12
theorem ou.mono {n:Nat} {H H':Hp} {b:Addr} {bk:List (List Pl)} (e:aM H H') (h:ou n H b bk):ou n H' b bk:=by
 obtain⟨us,h1,h2,h3⟩:=h
 exact⟨us,e _ _ h1,h2.mono e,h3⟩
def owS (g:List Int) (f:Int) (x:Int × Tm):Int:=if hF g x.2=true then x.1 else f
def owF (g:List Int) (p:Pl):Int:=p.foldl (owS g) 0
theorem Ey {g:List Int} {p:Pl} {i:Nat} {x:Int × Tm} (h:p[i]? = some x):owF g (p.take (i+1))=if hF g x.2=true then x.1 else owF g (p.take i):=by
 unfold owF
 rw[QF,h]
 show ((p.take i)++[x]).foldl (owS g) 0=_
 rw[List.foldl_append]
 rfl
def lsF (p:Pl):Int:=mxD 0 (p.map (·.1))
theorem jD:∀ (l:List Int) (a b:Int),l.foldl max (max a b)=max a (l.foldl max b)
 | [],a,b=>rfl
 | y::l,a,b=>by
  rw[Rm,Rm,show max (max a b) y=max a (max b y) by lia]
  exact jD l a (max b y)
def duF (g:List Int) (f:Int) (ps:List Pl):Int:=(ps.map (owF g)).foldl max f
theorem Fy (g:List Int) {f:Int} (hf:0<=f) (ps:List Pl):duF g f ps=max f (duF g 0 ps):=by
 unfold duF
 rw[← jD,show max f 0=f by lia]
def eX (g:List Int) (fl:List Int) (bk:List (List Pl)):List Int:=U4 (duF g) fl bk
def rfS (f:Int) (ps:List Pl):Int:=(ps.map lsF).foldl max f
def rfF (fl:List Int) (bk:List (List Pl)):List Int:=U4 rfS fl bk
theorem wJ {α β γ:Type} (f:α->β->γ) {xs:List α} {ys:List β} {i:Nat} {x:α} {y:β} (h1:xs[i]? = some x) (h2:ys[i]? = some y):U4 f (xs.take (i+1)) (ys.take (i+1))=U4 f (xs.take i) (ys.take i)++[f x y]:=by
 have l1:i < xs.length:=(List.getElem?_eq_some_iff.mp h1).1
 have l2:i < ys.length:=(List.getElem?_eq_some_iff.mp h2).1
 rw[QF,QF,h1,h2]
 show U4 f (xs.take i++[x]) (ys.take i++[y])=_
 rw[List.zipWith_append (by rw[Ql,Ql]; lia)]
 rfl
theorem Bk {as:List Addr} {i:Nat} {x:V} (h:(as.map V.ref)[i]? = some x):∃ a,as[i]? = some a/\x = .ref a:=by
 rw[Qn] at h
 cases e:as[i]? with
 | none=>rw[e] at h; cases h
 | some a=>rw[e] at h; exact⟨a,rfl,(QJ h).symm⟩
theorem take_snoc {α β:Type} (f:α->β) {xs:List α} {i:Nat} {x:α} (h:xs[i]? = some x):(xs.take (i+1)).map f=(xs.take i).map f++[f x]:=(qK f h).symm
abbrev zZ:Stmt:=top 7
theorem uz:aW ["pledge","giving","step","term"] ["pledge","giving"] (aH zZ):=⟨rfl,rfl,rfl,by decide+kernel,rfl,by decide+kernel,by decide+kernel⟩
inductive zJ (K:Qu) (vs:List V) (H:Hp) (Q:VK):Prop where
 | mk (a g:Addr) (n:Nat) (p:Pl) (ns:List Int) (z0:vs=[.ref a,.ref g]) (z1:zf n H a p) (z2:SqT K H g (ns.map V.int)) (z3:n<=ns.length) (z4:∀ H',aM H H'->Q (.int (owF ns p)) H'):zJ K vs H Q
def Ag (K:Qu):Sp:=fun vs H Q _=>zJ K vs H Q
theorem Jl {k:Nat} (F:Fun K "owes" "owes" zZ f fd) (B:Bt mg)
  (D_holds:Df P w K mg base "holds" k ["term","giving"] (ju K 4)):fj P w K mg base CX0 (k+1) f fd ["pledge","giving"] (Ag K):=by
 refine F.ok uz (fun vs H Q E h=>?_) (fun cdv A outer s H vs Q E hr h=>?_)
 ·obtain⟨a,g,n,p,ns,rfl,_⟩:=h
  rfl
 ·obtain⟨a,g,n,p,ns,rfl,⟨ok,vs,ha,rp⟩,hg,hn,q⟩:=h
  refine⟨_,(aA (gK Rt rfl (KN rfl B.reversed_ (aa (pv 0) aq)) (dU (K:=K) 2 rfl rfl (aZ (aG (i:=2) uz.nd rfl (Qm rfl)) (aZ (aG (i:=3) uz.nd rfl (Qm rfl)) d8))) (aC (bZ (iH (aY D_holds hr (aa (pv 3) (aa (pv 1) aq)))) (aC (aK (pv 2))) aX)))
 (aC (aK aB))),?_⟩
  have el:=rp.length
  refine⟨_,rfl,a,vs,rfl,SqT.of ha,Io (K:=K) (a:=a) (xs:=vs) (fun i σ H2=>(∃ u v,σ=[some (.ref a),some (.ref g),u,v])/\aM H H2/\owF ns p=owF ns (p.take (p.length - i)))
   ⟨⟨_,_,rfl⟩,aM.refl H,by rw[Nat.sub_zero,Qk]⟩ (fun i σ H2 _ h=>SqT.of (h.2.1 _ _ ha)) ?_ ?_⟩
  ·rintro i x σ H2 hi hx ⟨⟨u,v,rfl⟩,sm,ow⟩
   obtain⟨r,k0,y,t,rfl,hr0,rt,hp⟩:=rp.get hx
   have hm:=Qy hp
   have e1:p.length - i=vs.length - 1 - i+1:=by lia
   have e2:p.length - (i+1)=vs.length - 1 - i:=by lia
   rw[e1,Ey hp] at ow
   refine⟨r,_,rfl,SqT.of (sm _ _ hr0),rfl,_,_,rfl,_,_,rfl,rfl,?_⟩
   refine⟨_,rfl,_,rfl,y,g,n,t,ns,rfl,rt.mono sm,(ok.2.2.2 _ hm).2.2,jE sm hg,hn,fun H3 s3=>⟨_,rfl,?_⟩⟩
   cases e:hF ns t with
   | true =>
    refine jw ⟨_,rfl,?_⟩
    rw[if_pos e] at ow
    have q':=q H3 (sm.trans s3)
    rw[ow] at q'
    exact q'
   | false =>
    refine gG ⟨⟨_,_,rfl⟩,sm.trans s3,?_⟩
    rw[if_neg (by rw[e]; exact Qc)] at ow
    rw[e2]
    exact ow
  ·rintro σ H2 ⟨⟨u,v,rfl⟩,sm,ow⟩
   rw[el,Nat.sub_self,Ry] at ow
   have q':=q H2 sm
   rw[ow] at q'
   exact q'
abbrev je:Stmt:=top 8
theorem qW:aW ["pledge"] ["pledge"] (aH je):=⟨rfl,rfl,rfl,by decide+kernel,rfl,by decide+kernel,by decide+kernel⟩
inductive Ah (vs:List V) (H:Hp) (Q:VK):Prop where
 | mk (a:Addr) (n:Nat) (p:Pl) (z0:vs=[.ref a]) (z1:zf n H a p) (z2:∀ H',aM H H'->Q (.int (lsF p)) H'):Ah  vs H Q
def HN:Sp:=fun vs H Q _=>Ah  vs H Q
theorem tE (F:Fun K "last_step" "last_step" je f fd) (B:Bt mg) :
  fj P w K mg base CX0 1 f fd ["pledge"] HN:=by
 refine F.ok qW (fun vs H Q E h=>?_) (fun cdv A outer s H vs Q E hr h=>?_)
 ·obtain⟨a,n,p,rfl,_⟩:=h
  rfl
 ·obtain⟨a,n,p,rfl,⟨ok,vs,ha,rp⟩,q⟩:=h
  refine⟨_,(aC (aK (IK rfl rfl B.max_ (aa (bA (L:=["step","term"]) (F:=[]) (cap:=[]) rfl (bj rfl rfl (by kernel_rfl)) (iU (pv 0)) (fun _ _ _ _ _=>(dU (K:=K) 2 rfl rfl (aZ (aG (i:=0) (aP (by decide+kernel)) rfl (Qm rfl)) (aZ (aG (i:=1) (aP (by decide+kernel)) rfl (Qm rfl)) d8)))) (fun _ _ _ _ _=>bC) (fun _ _ _ _ _=>(pv 0))) aq)))),?_⟩
  have el:=rp.length
  have l9:=ok.2.1
  refine⟨_,rfl,a,rfl,⟨_,SqT.of ha⟩,fun D hD=>fG (K:=K) (a:=a) (xs:=vs) (fun i zs σ' H2=>(∃ u v,σ'=[u,v])/\zs=((p.take i).map (·.1)).map V.int/\aM H H2/\H2 D=some (.lst zs))
   ⟨⟨_,_,rfl⟩,rfl,au hD _,aj⟩ (fun i zs σ' H2 _ h=>⟨SqT.of (h.2.2.1 _ _ ha),h.2.2.2⟩) ?_ ?_⟩
  ·rintro j zs x σ' H2 hx ⟨⟨u,v,rfl⟩,e1,sm,hDl⟩
   obtain⟨r,k0,y,t,rfl,hr0,rt,hp⟩:=rp.get hx
   refine⟨r,_,rfl,SqT.of (sm _ _ hr0),rfl,_,_,rfl,_,_,rfl,rfl,?_⟩
   refine tT ?_
   refine⟨_,rfl,hDl,?_,⟨_,_,rfl⟩,?_,aF sm hD _,aj⟩
   ·rw[e1,Py,Py,Ql]
    exact aD (by lia)
   ·rw[e1,take_snoc (·.1) hp,PQ]
    rfl
  ·rintro zs σ' H2 ⟨_,e1,sm,hDl⟩
   rw[el,Qk] at e1
   refine⟨D,p.map (·.1),rfl,SqL.of (by rw[hDl,e1]),?_⟩
   exact q H2 sm
abbrev gQ:Stmt:=top 10
theorem oJ:aW ["book","floor","giving"] ["book","floor","giving"] (aH gQ):=⟨rfl,rfl,rfl,by decide+kernel,rfl,by decide+kernel,by decide+kernel⟩
inductive HS (K:Qu) (vs:List V) (H:Hp) (Q:VK):Prop where
 | mk (b f g:Addr) (n:Nat) (bk:List (List Pl)) (fl ns:List Int) (z0:vs=[.ref b,.ref f,.ref g]) (z1:ou n H b bk) (z2:SqT K H f (fl.map V.int)) (z3:SqT K H g (ns.map V.int)) (z4:fl.length=bk.length) (z5:n<=ns.length) (z6:(∀ x∈fl,0<=x)) (z7:∀ (r:Addr) (H':Hp),aM H H'->H' r=some (.tup ((eX ns fl bk).map V.int))->Q (.ref r) H'):HS K vs H Q
def KR (K:Qu):Sp:=fun vs H Q _=>HS K vs H Q
theorem oU {k:Nat} (F:Fun K "what_is_due" "what_is_due" gQ f fd) (B:Bt mg)
  (D_owes:Df P w K mg base "owes" k ["pledge","giving"] (Ag K)):fj P w K mg base CX0 (k+1) f fd ["book","floor","giving"] (KR K):=by
 refine F.ok oJ (fun vs H Q E h=>?_) (fun cdv A outer s H vs Q E hr h=>?_)
 ·obtain⟨b,f,g,n,bk,fl,ns,rfl,_⟩:=h
  rfl
 ·obtain⟨b,f,g,n,bk,fl,ns,rfl,⟨us,hb,rb,l12⟩,hf,hg,hl,hn,h0,q⟩:=h
  refine⟨_,(aC (aK (bG (r:=fC K) bB rfl B.tuple_ bQ (aa (bA (L:=["step","pledges"]) (F:=["giving"]) (cap:=[2]) rfl (bj rfl rfl (by kernel_rfl)) (HR rfl B.zip_ (aa (pv 1) (aa (pv 0) aq))) (fun _ _ _ _ _=>(dU (K:=K) 2 rfl rfl (aZ (aG (i:=0) (aP (by decide+kernel)) rfl (Qm rfl)) (aZ (aG (i:=1) (aP (by decide+kernel)) rfl (Qm rfl)) d8)))) (fun _ _ _ _ _=>bC) (fun _ _ _ _ _=>(aL (r:=Ge K) (nW rfl) rfl B.max_ xn (aa (aO zy (bK (aa (pv 0) aq)) (bA (L:=["pledge"]) (F:=["giving"]) (cap:=[2]) rfl (bj rfl rfl (by kernel_rfl)) (qj K rfl (pv 1)) (fun _ _ _ _ _=>(aG (i:=0) (aP (by decide+kernel)) rfl (Qm rfl))) (fun _ _ _ _ _=>bC) (fun _ _ _ _ _=>(aY D_owes hr (aa (pv 0) (aa (pv 1) aq)))))) aq)))) aq)))),?_⟩
  have el:=rb.length
  refine⟨_,rfl,_,rfl,f,b,_,_,rfl,hf,SqL.of hb,fun D hD=>xN (K:=K) (a:=f) (b:=b) (xs:=fl.map V.int) (ys:=us) (by rw[Py]; lia)
   (fun i zs σ H2=>(∃ u v,σ=[u,v,some (.ref g)])/\zs=(U4 (duF ns) (fl.take i) (bk.take i)).map V.int/\aM H H2/\H2 D=some (.lst zs)) ⟨⟨_,_,rfl⟩,rfl,au hD _,aj⟩ (fun i zs σ H2 _ h=>⟨jE h.2.2.1 hf,SqL.of (h.2.2.1 _ _ hb),h.2.2.2⟩) ?_ ?_⟩
  ·rintro i zs x y p σ H2 hx hy hp ⟨⟨u,v,rfl⟩,e1,sm,hDl⟩
   obtain⟨m,hm,rfl⟩:=int_at hx
   obtain⟨c,as,ps,rfl,hps,hc,l100,rps⟩:=rb.get hy
   have ell:=rps.length
   generalize eH3:upd H2 p _=H3
   obtain⟨g3,e3⟩:=aJ eH3 hp
   refine⟨p,_,rfl,SqT.of e3,rfl,_,_,rfl,_,_,rfl,rfl,?_⟩
   refine tT ?_
   refine⟨_,rfl,small (by show 1<=1000; decide),fun p4 h4=>?_⟩
   generalize eH4:upd H3 p4 _=H4
   obtain⟨g4,e4⟩:=aJ eH4 h4
   have s4:aM H H4:=sm.trans (g3.trans g4)
   refine⟨_,rfl,c,rfl,⟨_,SqL.of (s4 _ _ hc)⟩,fun D2 hD2=>cJ (K:=K) (a:=c) (xs:=as.map V.ref) (fun j ws σ' H5=>(∃ u,σ'=[u,some (.ref g)])/\ws=((ps.take j).map (owF ns)).map V.int/\aM H4 H5/\H5 D2=some (.lst ws))
    ⟨⟨_,rfl⟩,rfl,au hD2 _,aj⟩ (fun j ws σ' H5 _ h=>⟨SqL.of (h.2.2.1 _ _ (s4 _ _ hc)),h.2.2.2⟩) ?_ ?_⟩
   ·rintro j ws x σ' H5 hx ⟨⟨u,rfl⟩,e5,s5,hD5⟩
    obtain⟨a,ha,rfl⟩:=Bk hx
    obtain⟨pl,hpl,rpl⟩:=rps.get ha
    refine gT ?_
    refine⟨_,rfl,_,rfl,a,g,n,pl,ns,rfl,rpl.mono (s4.trans s5),jE (s4.trans s5) hg,hn,fun H6 s6=>?_⟩
    refine⟨s6 _ _ hD5,?_,⟨_,rfl⟩,?_,aF (s5.trans s6) hD2 _,aj⟩
    ·rw[e5,Py,Py,Ql]
     exact aD (by lia)
    ·rw[e5,take_snoc (owF ns) hpl,PQ]
     rfl
   ·rintro ws σ' H5 ⟨_,e5,s5,hD5⟩
    rw[Py,ell,Qk] at e5
    subst e5
    refine⟨p4,D2,_,_,rfl,rfl,s5 _ _ e4,hD5,small ?_,fun p6 h6=>?_⟩
    ·rw[Py,Py]
     show 1+ps.length<=1000
     lia
    generalize eH6:upd H5 p6 _=H6
    obtain⟨g6,e6⟩:=aJ eH6 h6
    have sall:aM H2 H6:=g3.trans (g4.trans (s5.trans g6))
    refine⟨p6,m::ps.map (owF ns),rfl,SqL.of e6,by simp,sall _ _ hDl,?_,⟨_,_,rfl⟩,?_,aF (sm.trans sall) hD _,aj⟩
    ·rw[e1,Py,VP,Ql]
     exact aD (by lia)
    ·rw[e1,wJ (duF ns) hm hps,PQ]
     rfl
  ·rintro zs σ H2 ⟨_,e1,sm,hDl⟩
   refine⟨D,_,rfl,.inl ⟨SqL.of hDl,fun l hl'=>?_⟩⟩
   refine q l _ (sm.trans (au hl' _)) ?_
   rw[aj,e1,Py,Qk,hl,Qk]
   rfl
theorem vK {g fl:List Int} {bk:List (List Pl)} (h:fl.length=bk.length):(eX g fl bk).length=bk.length:=by
 unfold eX
 rw[VP]
 lia
abbrev Ao:Stmt:=top 11
theorem Im:aW ["book","floor"] ["book","floor"] (aH Ao):=⟨rfl,rfl,rfl,by decide+kernel,rfl,by decide+kernel,by decide+kernel⟩
inductive Aq (K:Qu) (vs:List V) (H:Hp) (Q:VK):Prop where
 | mk (b f:Addr) (n:Nat) (bk:List (List Pl)) (fl:List Int) (z0:vs=[.ref b,.ref f]) (z1:ou n H b bk) (z2:SqT K H f (fl.map V.int)) (z3:fl.length=bk.length) (z4:∀ (r:Addr) (H':Hp),aM H H'->H' r=some (.tup ((rfF fl bk).map V.int))->Q (.ref r) H'):Aq K vs H Q
def HJ (K:Qu):Sp:=fun vs H Q _=>Aq K vs H Q
theorem J4 (F:Fun K "roof" "roof" Ao f fd) (B:Bt mg)
  (D_last_step:Df P w K mg base "last_step" 1 ["pledge"] HN):fj P w K mg base CX0 2 f fd ["book","floor"] (HJ K):=by
 refine F.ok Im (fun vs H Q E h=>?_) (fun cdv A outer s H vs Q E hr h=>?_)
 ·obtain⟨b,f,n,bk,fl,rfl,_⟩:=h
  rfl
 ·obtain⟨b,f,n,bk,fl,rfl,⟨us,hb,rb,l12⟩,hf,hl,q⟩:=h
  refine⟨_,(aC (aK (bG (r:=fC K) bB rfl B.tuple_ bQ (aa (bA (L:=["step","pledges"]) (F:=[]) (cap:=[]) rfl (bj rfl rfl (by kernel_rfl)) (HR rfl B.zip_ (aa (pv 1) (aa (pv 0) aq))) (fun _ _ _ _ _=>(dU (K:=K) 2 rfl rfl (aZ (aG (i:=0) (aP (by decide+kernel)) rfl (Qm rfl)) (aZ (aG (i:=1) (aP (by decide+kernel)) rfl (Qm rfl)) d8)))) (fun _ _ _ _ _=>bC) (fun _ _ _ _ _=>(aL (r:=Ge K) (nW rfl) rfl B.max_ xn (aa (aO zy (bK (aa (pv 0) aq)) (bA (L:=["pledge"]) (F:=[]) (cap:=[]) rfl (bj rfl rfl (by kernel_rfl)) (qj K rfl (pv 1)) (fun _ _ _ _ _=>(aG (i:=0) (aP (by decide+kernel)) rfl (Qm rfl))) (fun _ _ _ _ _=>bC) (fun _ _ _ _ _=>(aY D_last_step hr (aa (pv 0) aq))))) aq)))) aq)))),?_⟩
  have el:=rb.length
  refine⟨_,rfl,_,rfl,f,b,_,_,rfl,hf,SqL.of hb,fun D hD=>xN (K:=K) (a:=f) (b:=b) (xs:=fl.map V.int) (ys:=us) (by rw[Py]; lia)
   (fun i zs σ H2=>(∃ u v,σ=[u,v])/\zs=(U4 rfS (fl.take i) (bk.take i)).map V.int/\aM H H2/\H2 D=some (.lst zs)) ⟨⟨_,_,rfl⟩,rfl,au hD _,aj⟩ (fun i zs σ H2 _ h=>⟨jE h.2.2.1 hf,SqL.of (h.2.2.1 _ _ hb),h.2.2.2⟩) ?_ ?_⟩
  ·rintro i zs x y p σ H2 hx hy hp ⟨⟨u,v,rfl⟩,e1,sm,hDl⟩
   obtain⟨m,hm,rfl⟩:=int_at hx
   obtain⟨c,as,ps,rfl,hps,hc,l100,rps⟩:=rb.get hy
   have ell:=rps.length
   generalize eH3:upd H2 p _=H3
   obtain⟨g3,e3⟩:=aJ eH3 hp
   refine⟨p,_,rfl,SqT.of e3,rfl,_,_,rfl,_,_,rfl,rfl,?_⟩
   refine tT ?_
   refine⟨_,rfl,small (by show 1<=1000; decide),fun p4 h4=>?_⟩
   generalize eH4:upd H3 p4 _=H4
   obtain⟨g4,e4⟩:=aJ eH4 h4
   have s4:aM H H4:=sm.trans (g3.trans g4)
   refine⟨_,rfl,c,rfl,⟨_,SqL.of (s4 _ _ hc)⟩,fun D2 hD2=>cJ (K:=K) (a:=c) (xs:=as.map V.ref) (fun j ws σ' H5=>(∃ u,σ'=[u])/\ws=((ps.take j).map lsF).map V.int/\aM H4 H5/\H5 D2=some (.lst ws))
    ⟨⟨_,rfl⟩,rfl,au hD2 _,aj⟩ (fun j ws σ' H5 _ h=>⟨SqL.of (h.2.2.1 _ _ (s4 _ _ hc)),h.2.2.2⟩) ?_ ?_⟩
   ·rintro j ws x σ' H5 hx ⟨⟨u,rfl⟩,e5,s5,hD5⟩
    obtain⟨a,ha,rfl⟩:=Bk hx
    obtain⟨pl,hpl,rpl⟩:=rps.get ha
    refine gT ?_
    refine⟨_,rfl,a,n,pl,rfl,rpl.mono (s4.trans s5),fun H6 s6=>?_⟩
    refine⟨s6 _ _ hD5,?_,⟨_,rfl⟩,?_,aF (s5.trans s6) hD2 _,aj⟩
    ·rw[e5,Py,Py,Ql]
     exact aD (by lia)
    ·rw[e5,take_snoc lsF hpl,PQ]
     rfl
   ·rintro ws σ' H5 ⟨_,e5,s5,hD5⟩
    rw[Py,ell,Qk] at e5
    subst e5
    refine⟨p4,D2,_,_,rfl,rfl,s5 _ _ e4,hD5,small ?_,fun p6 h6=>?_⟩
    ·rw[Py,Py]
     show 1+ps.length<=1000
     lia
    generalize eH6:upd H5 p6 _=H6
    obtain⟨g6,e6⟩:=aJ eH6 h6
    have sall:aM H2 H6:=g3.trans (g4.trans (s5.trans g6))
    refine⟨p6,m::ps.map lsF,rfl,SqL.of e6,by simp,sall _ _ hDl,?_,⟨_,_,rfl⟩,?_,aF (sm.trans sall) hD _,aj⟩
    ·rw[e1,Py,VP,Ql]
     exact aD (by lia)
    ·rw[e1,wJ rfS hm hps,PQ]
     rfl
  ·rintro zs σ H2 ⟨_,e1,sm,hDl⟩
   refine⟨D,_,rfl,.inl ⟨SqL.of hDl,fun l hl'=>?_⟩⟩
   refine q l _ (sm.trans (au hl' _)) ?_
   rw[aj,e1,Py,Qk,hl,Qk]
   rfl
def itF (f:List Int->List Int) (x:List Int):Nat->List Int
 | 0=>x
 | k+1=>f (itF f x k)
def Stops (f:List Int->List Int) (x:List Int) (m:Nat):Prop:=f (itF f x m)=itF f x m/\∀ j < m,f (itF f x j)≠itF f x j
def cT (f:List Int->List Int) (x:List Int) (m:Nat):List (List Int):=(P0 (m+1)).map (itF f x)
theorem dj (f:List Int->List Int) (x:List Int) (m:Nat):(cT f x m).length=m+1:=by
 unfold cT
 rw[Py,Qs]
theorem yL (f:List Int->List Int) (x:List Int) (m:Nat):cT f x (m+1)=cT f x m++[itF f x (m+1)]:=by
 unfold cT
 rw[SM,PQ]
 rfl
theorem yD (f:List Int->List Int) (x:List Int) (m:Nat):(cT f x m)[(cT f x m).length - 1]? = some (itF f x m):=by
 rw[dj,Nat.add_sub_cancel]
 unfold cT
 rw[Qn,RM (Te m)]
 rfl
theorem o7 {f:List Int->List Int} {x:List Int} {m m':Nat} (h:Stops f x m) (h':Stops f x m'):m=m':=by
 rcases Nat.lt_trichotomy m m' with z | z | z
 ·exact absurd h.1 (h'.2 m z)
 ·exact z
 ·exact absurd h'.1 (h.2 m' z)
theorem pZ {f:List Int->List Int} {x:List Int} (φ:List Int->Int) (N:Nat) (b0:∀ k,0<=φ (itF f x k)) (bN:∀ k,φ (itF f x k)<=(N:Int)) (up:∀ k,f (itF f x k)≠itF f x k->φ (itF f x k) < φ (itF f x (k+1))):∃ m,m<=N/\Stops f x m:=by
 have key:∀ k,(∃ m,m < k/\Stops f x m)∨((∀ j < k,f (itF f x j)≠itF f x j)/\(k:Int)<=φ (itF f x k)):=by
  intro k
  induction k with
  | zero=>exact .inr ⟨fun j h=>absurd h (VG _),by simpa using b0 0⟩
  | succ k ih =>
   rcases ih with⟨m,h1,h2⟩ | ⟨h1,h2⟩
   ·exact .inl ⟨m,by lia,h2⟩
   ·by_cases e:f (itF f x k)=itF f x k
    ·exact .inl ⟨k,Te k,e,h1⟩
    ·refine .inr ⟨fun j hj=>?_,by have:=up k e; lia⟩
     rcases Sh j k with z | z
     ·exact h1 j z
     ·have:j=k:=by lia
      subst this
      exact e
 rcases key (N+1) with⟨m,h1,h2⟩ | ⟨_,h2⟩
 ·exact⟨m,by lia,h2⟩
 ·have:=bN (N+1)
  lia
theorem iC {g g':List Int} (hl:g.length=g'.length) (h:∀ i,i < g.length->g.getD i 0<=g'.getD i 0):LeG g g':=fun i=>by
 by_cases hi:i < g.length
 ·exact h i hi
 ·rw[PL,Rk (by lia),PL,Rk (by lia)]
  exact RC _
theorem Gi {g:List Int} {p:Pl} {b:Int} (h0:0<=b) (h:∀ x∈p,x.1<=b):owF g p<=b:=by
 have key:∀ (p:Pl) (f:Int),f<=b->(∀ x∈p,x.1<=b)->p.foldl (owS g) f<=b:=by
  intro p
  induction p with
  | nil=>intro f hf _; exact hf
  | cons x r ih =>
   intro f hf hx
   rw[Rm]
   refine ih _ ?_ fun y hy=>hx y (Qg _ hy)
   unfold owS
   split
   ·exact hx x Qa
   ·exact hf
 exact key p 0 h0 h
theorem DX {g g':List Int} (l:LeG g g') {p:Pl} (ok:okP p):owF g p<=owF g' p:=by
 have key:∀ (p:Pl) (f f':Int),f<=f'->(∀ x∈p,f' < x.1)->(p.map (·.1)).Pairwise (· < ·)->p.foldl (owS g) f<=p.foldl (owS g') f':=by
  intro p
  induction p with
  | nil=>intro f f' hf _ _; exact hf
  | cons x r ih =>
   intro f f' hf hx hp
   rw[QM,R7] at hp
   rw[Rm,Rm]
   have hr:∀ y∈r,x.1 < y.1:=fun y hy=>hp.1 y.1 (List.mem_map.mpr ⟨y,hy,rfl⟩)
   have hx0:=hx x Qa
   have hfr:∀ y∈r,f' < y.1:=fun y hy=>by have:=hr y hy; lia
   unfold owS
   by_cases c:hF g x.2=true
   ·rw[if_pos c,if_pos (uM l _ c)]
    exact ih _ _ (RC _) hr hp.2
   ·rw[if_neg c]
    by_cases c':hF g' x.2=true
    ·rw[if_pos c']
     exact ih _ _ (by lia) hr hp.2
    ·rw[if_neg c']
     exact ih _ _ hf hfr hp.2
 exact key p 0 0 (RC _) (fun x hx=>by have:=(ok.2.2.2 x hx).1; lia) ok.2.2.1
theorem fZ {b:Int}:∀ (l:List Int) (a:Int),a<=b->(∀ x∈l,x<=b)->l.foldl max a<=b
 | [],a,h,_=>h
 | y::l,a,h,hl=>by
  rw[Rm]
  exact fZ l _ (by have:=hl y Qa; lia) fun x hx=>hl x (Qg _ hx)
theorem gj {α:Type} (u v:α->Int):∀ (l:List α) (a b:Int),a<=b->(∀ x∈l,u x<=v x)->(l.map u).foldl max a<=(l.map v).foldl max b
 | [],a,b,h,_=>h
 | y::l,a,b,h,hl=>by
  rw[QM,QM,Rm,Rm]
  exact gj u v l _ _ (by have:=hl y Qa; lia) fun x hx=>hl x (Qg _ hx)
def okB (bk:List (List Pl)):Prop:=∀ ps∈bk,∀ p∈ps,okP p
theorem xr {g g':List Int} (l:LeG g g') {ps:List Pl} (ok:∀ p∈ps,okP p) {f f':Int} (h:f<=f'):duF g f ps<=duF g' f' ps:=gj _ _ ps f f' h fun p hp=>DX l (ok p hp)
theorem HB (g:List Int) (f:Int) (ps:List Pl):f<=duF g f ps:=(eV _ f).1
theorem Ie (g:List Int) {f:Int} (h:f<=9) {ps:List Pl} (ok:∀ p∈ps,okP p):duF g f ps<=9:=by
 refine fZ _ f h fun x hx=>?_
 obtain⟨p,hp,rfl⟩:=List.mem_map.mp hx
 exact Gi (by decide) fun y hy=>((ok p hp).2.2.2 y hy).2.1
theorem Gn {p:Pl} {x:Int × Tm} (h:x∈p):x.1<=lsF p:=by
 unfold lsF
 cases p with
 | nil=>cases h
 | cons y r =>
  show x.1<=(r.map (·.1)).foldl max y.1
  obtain⟨h1,h2⟩:=eV (r.map (·.1)) y.1
  rcases List.mem_cons.mp h with rfl | h
  ·exact h1
  ·exact h2 x.1 (List.mem_map.mpr ⟨x,h,rfl⟩)
theorem J3 {g:List Int} {p:Pl} (ok:okP p):owF g p<=lsF p:=by
 have hne:=ok.1
 refine Gi ?_ fun x hx=>Gn hx
 cases p with
 | nil=>exact absurd rfl hne
 | cons y r =>
  have:=Gn (p:=y::r) (x:=y) Qa
  have:=(ok.2.2.2 y Qa).1
  lia
theorem Jw (g:List Int) (f:Int) {ps:List Pl} (ok:∀ p∈ps,okP p):duF g f ps<=rfS f ps:=gj _ _ ps f f (RC _) fun p hp=>J3 (ok p hp)
theorem Iv {p:Pl} (ok:okP p):lsF p<=9:=by
 cases p with
 | nil=>exact absurd rfl ok.1
 | cons y r =>
  show (r.map (·.1)).foldl max y.1<=9
  refine fZ _ _ (ok.2.2.2 y Qa).2.1 fun x hx=>?_
  obtain⟨z,hz,rfl⟩:=List.mem_map.mp hx
  exact (ok.2.2.2 z (Qg _ hz)).2.1
theorem JK {f:Int} (h:f<=9) {ps:List Pl} (ok:∀ p∈ps,okP p):rfS f ps<=9:=by
 refine fZ _ f h fun x hx=>?_
 obtain⟨p,hp,rfl⟩:=List.mem_map.mp hx
 exact Iv (ok p hp)
theorem K6 (f:Int) (ps:List Pl):f<=rfS f ps:=(eV _ f).1
theorem fH {α:Type} (f:Int->α->Int) {xs:List Int} {ys:List α} {i:Nat} (h1:i < xs.length) (h2:i < ys.length):(U4 f xs ys).getD i 0=f (xs.getD i 0) ys[i]:=by
 rw[PL,List.getElem?_zipWith,PJ h1,PJ h2,PL,PJ h1]
 rfl
theorem gF:∀ {g g':List Int},g.length=g'.length->(∀ i,i < g.length->g.getD i 0<=g'.getD i 0)->g.sum<=g'.sum/\(g.sum=g'.sum->g=g')
 | [],[],_,_=>⟨RC _,fun _=>rfl⟩
 | a::g,b::g',hl,h=>by
  have h0:a<=b:=h 0 (Nat.succ_pos _)
  obtain⟨h1,h2⟩:=gF (g:=g) (g':=g') (by simpa using hl) fun i hi=>by
   have:=h (i+1) (by rw[Qo]; lia)
   simpa using this
  rw[S9,S9]
  refine⟨by lia,fun e=>?_⟩
  have e1:a=b:=by lia
  have e2:g.sum=g'.sum:=by lia
  rw[e1,h2 e2]
theorem sum_bound {g:List Int} (h:∀ x∈g,0<=x/\x<=9):0<=g.sum/\g.sum<=9 * (g.length:Int):=by
 induction g with
 | nil=>exact⟨RC _,by simp⟩
 | cons a g ih =>
  have:=h a Qa
  have:=ih fun x hx=>h x (Qg _ hx)
  rw[S9,Qo]
  lia
def okG (n:Nat) (g:List Int):Prop:=g.length=n/\∀ x∈g,0<=x/\x<=9
theorem dB {n:Nat} {g:List Int} (h:okG n g) {i:Nat} (hi:i < n):0<=g.getD i 0/\g.getD i 0<=9:=by
 have hi':i < g.length:=by rw[h.1]; exact hi
 rw[PL,PJ hi']
 exact h.2 _ (Rg hi')
theorem pB {n:Nat} {g:List Int} (hl:g.length=n) (h:∀ i,i < n->0<=g.getD i 0/\g.getD i 0<=9):okG n g:=by
 refine⟨hl,fun x hx=>?_⟩
 obtain⟨i,hi,e⟩:=RX hx
 have:=h i (by lia)
 rw[PL,PJ hi,e] at this
 exact this
section
variable {n:Nat} {fl:List Int} {bk:List (List Pl)}
theorem fO (hb:bk.length=n) (ok:okB bk) (hf:okG n fl) (g:List Int):okG n (eX g fl bk):=by
 refine pB (by rw[vK (by rw[hf.1,hb])]; exact hb) fun i hi=>?_
 have h1:i < fl.length:=by rw[hf.1]; exact hi
 have h2:i < bk.length:=by lia
 unfold eX
 rw[fH (duF g) h1 h2]
 have:=dB hf hi
 have:=HB g (fl.getD i 0) bk[i]
 have:=Ie g (f:=fl.getD i 0) (by lia) (ok bk[i] (Rg h2))
 lia
theorem mq (hb:bk.length=n) (ok:okB bk) (hf:okG n fl) {g g':List Int} (l:LeG g g'):LeG (eX g fl bk) (eX g' fl bk):=by
 have l1:=(fO hb ok hf g).1
 have l2:=(fO hb ok hf g').1
 refine iC (by lia) fun i hi=>?_
 have h1:i < fl.length:=by rw[hf.1]; lia
 have h2:i < bk.length:=by lia
 unfold eX
 rw[fH (duF g) h1 h2,fH (duF g') h1 h2]
 exact xr l (ok bk[i] (Rg h2)) (RC _)
theorem m8 (hb:bk.length=n) (ok:okB bk) (hf:okG n fl) (g:List Int):LeG fl (eX g fl bk):=by
 have l1:=(fO hb ok hf g).1
 refine iC (by rw[hf.1]; lia) fun i hi=>?_
 have h2:i < bk.length:=by rw[hf.1] at hi; lia
 unfold eX
 rw[fH (duF g) hi h2]
 exact HB _ _ _
theorem dF (hb:bk.length=n) (ok:okB bk) (hf:okG n fl):okG n (rfF fl bk):=by
 have hl:(rfF fl bk).length=n:=by
  unfold rfF
  rw[VP,hf.1,hb,Nat.min_self]
 refine pB hl fun i hi=>?_
 have h1:i < fl.length:=by rw[hf.1]; exact hi
 have h2:i < bk.length:=by lia
 unfold rfF
 rw[fH rfS h1 h2]
 have:=dB hf hi
 have:=K6 (fl.getD i 0) bk[i]
 have:=JK (f:=fl.getD i 0) (by lia) (ok bk[i] (Rg h2))
 lia
theorem wN (hb:bk.length=n) (ok:okB bk) (hf:okG n fl) (g:List Int):LeG (eX g fl bk) (rfF fl bk):=by
 have l1:=(fO hb ok hf g).1
 have l2:=(dF hb ok hf).1
 refine iC (by lia) fun i hi=>?_
 have h1:i < fl.length:=by rw[hf.1]; lia
 have h2:i < bk.length:=by lia
 unfold eX rfF
 rw[fH (duF g) h1 h2,fH rfS h1 h2]
 exact Jw g _ (ok bk[i] (Rg h2))
theorem dG (hb:bk.length=n) (ok:okB bk) (hf:okG n fl) {x:List Int} (hx:okG n x):∀ k,okG n (itF (fun g=>eX g fl bk) x k)
 | 0=>hx
 | k+1=>fO hb ok hf _
theorem KY (hb:bk.length=n) (ok:okB bk) (hf:okG n fl) {x:List Int} (h:LeG x (eX x fl bk)):∀ k,LeG (itF (fun g=>eX g fl bk) x k) (itF (fun g=>eX g fl bk) x (k+1))
 | 0=>h
 | k+1=>mq hb ok hf (KY hb ok hf h k)
theorem Bf (hb:bk.length=n) (ok:okB bk) (hf:okG n fl) {x:List Int} (h:LeG (eX x fl bk) x):∀ k,LeG (itF (fun g=>eX g fl bk) x (k+1)) (itF (fun g=>eX g fl bk) x k)
 | 0=>h
 | k+1=>mq hb ok hf (Bf hb ok hf h k)
theorem Eu (hb:bk.length=n) (ok:okB bk) (hf:okG n fl) {x:List Int} (hx:okG n x) (h:LeG x (eX x fl bk)):∃ m,m<=9 * n/\Stops (fun g=>eX g fl bk) x m:=by
 refine pZ V8 (9 * n) (fun k=>(sum_bound (dG hb ok hf hx k).2).1) (fun k=>?_) (fun k ne=>?_)
 ·have:=(sum_bound (dG hb ok hf hx k).2).2
  rw[(dG hb ok hf hx k).1] at this
  lia
 ·obtain⟨h1,h2⟩:=gF ((dG hb ok hf hx k).1.trans (dG hb ok hf hx (k+1)).1.symm) fun i _=>KY hb ok hf h k i
  have:V8 (itF (fun g=>eX g fl bk) x k)≠V8 (itF (fun g=>eX g fl bk) x (k+1)):=fun e=>ne (h2 e).symm
  lia
theorem yM (hb:bk.length=n) (ok:okB bk) (hf:okG n fl) {x:List Int} (hx:okG n x) (h:LeG (eX x fl bk) x):∃ m,m<=9 * n/\Stops (fun g=>eX g fl bk) x m:=by
 refine pZ (fun g=>9 * (n:Int) - g.sum) (9 * n) (fun k=>?_) (fun k=>?_) (fun k ne=>?_)
 ·have:=(sum_bound (dG hb ok hf hx k).2).2
  rw[(dG hb ok hf hx k).1] at this
  show 0<=9 * (n:Int) - V8 _
  lia
 ·have:=(sum_bound (dG hb ok hf hx k).2).1
  show 9 * (n:Int) - V8 _<=_
  lia
 ·obtain⟨h1,h2⟩:=gF ((dG hb ok hf hx (k+1)).1.trans (dG hb ok hf hx k).1.symm) fun i _=>Bf hb ok hf h k i
  have:V8 (itF (fun g=>eX g fl bk) x (k+1))≠V8 (itF (fun g=>eX g fl bk) x k):=fun e=>ne (h2 e)
  show 9 * (n:Int) - V8 _ < 9 * (n:Int) - V8 _
  lia
end
inductive fD (H:Hp):List V->List (List Int)->Prop where
 | nil:fD H [] []
 | cons {a:Addr} {g:List Int} {us:List V} {gs:List (List Int)}:H a=some (.tup (g.map V.int))->g.length<=1000->fD H us gs->fD H (.ref a::us) (g::gs)
theorem fD.bu {H H':Hp} (e:∀ a xs,H a=some (HO.tup xs)->H' a=some (HO.tup xs)):∀ {us:List V} {gs:List (List Int)},fD H us gs->fD H' us gs
 | _,_,.nil=>.nil
 | _,_,.cons h l r=>.cons (e _ _ h) l (fD.bu e r)
theorem fD.mono {H H':Hp} (e:aM H H') {us:List V} {gs:List (List Int)} (h:fD H us gs):fD H' us gs:=h.bu fun a xs q=>e a _ q
theorem fD.length {H:Hp}:∀ {us:List V} {gs:List (List Int)},fD H us gs->us.length=gs.length
 | _,_,.nil=>rfl
 | _,_,.cons _ _ r=>by rw[Qo,Qo,fD.length r]
theorem fD.get {H:Hp}:∀ {us:List V} {gs:List (List Int)} {i:Nat} {g:List Int},fD H us gs->gs[i]? = some g->∃ a,us[i]? = some (.ref a)/\H a=some (.tup (g.map V.int))
 | _,_,_,_,.nil,h=>by simp at h
 | _,_,0,_,.cons h _ _,e=>by
  cases (show some _=some _ from e)
  exact⟨_,rfl,h⟩
 | _,_,i+1,_,.cons _ _ r,e=>by
  obtain⟨a,h1,h2⟩:=fD.get (i:=i) r (by simpa using e)
  exact⟨a,by simpa using h1,h2⟩
theorem fD.snoc {H:Hp} {a:Addr} {g:List Int} (h:H a=some (.tup (g.map V.int))) (hl:g.length<=1000):∀ {us:List V} {gs:List (List Int)},fD H us gs->fD H (us++[.ref a]) (gs++[g])
 | _,_,.nil=>.cons h hl .nil
 | _,_,.cons x y r=>.cons x y (fD.snoc h hl r)
def gD (g:List Int):Dm:=.tup (g.map Dm.int)
theorem fD.Ml {H:Hp}:∀ {us:List V} {gs:List (List Int)},fD H us gs->pI H us (gs.map gD)
 | _,_,.nil=>.nil
 | _,_,.cons h l r=>.cons (jC h l) (fD.Ml r)
theorem vM:∀ gs:List (List Int),n8 (gs.map gD)<=1
 | []=>by rw[Vk,n8]; decide
 | g::gs=>by
  have:=vM gs
  rw[QM,n8]
  have:(gD g).dep=1:=vU g
  lia
theorem cI.okB {n:Nat} {H:Hp}:∀ {us:List V} {bk:List (List Pl)},cI n H us bk->okB bk
 | _,_,.nil=>fun ps h=>by cases h
 | _,_,.cons _ _ p r=>fun ps h q hq=>by
  rcases List.mem_cons.mp h with rfl | h
  ·obtain⟨i,hi,e⟩:=RX hq
   have hlen:=p.length
   obtain⟨q',e1,e2⟩:=p.get (i:=i) (PJ (by lia))
   rw[PJ hi,e] at e1
   cases e1
   exact e2.1
  ·exact cI.okB r ps h q hq
theorem ou.okB {n:Nat} {H:Hp} {b:Addr} {bk:List (List Pl)} (h:ou n H b bk):okB bk:=by
 obtain⟨us,_,h2,_⟩:=h
 exact h2.okB
abbrev Fd (fl:List Int) (bk:List (List Pl)):List Int->List Int:=fun g=>eX g fl bk
abbrev mV:Stmt:=top 12
theorem iM:aW ["book","floor","giving","row","due"] ["book","floor","giving"] (aH mV):=⟨rfl,rfl,rfl,by decide+kernel,rfl,by decide+kernel,by decide+kernel⟩
inductive oZ (K:Qu) (vs:List V) (H:Hp) (Q:VK):Prop where
 | mk (b f g:Addr) (n:Nat) (bk:List (List Pl)) (fl x:List Int) (m:Nat) (z0:vs=[.ref b,.ref f,.ref g]) (z1:ou n H b bk) (z2:bk.length=n) (z3:H f=some (.tup (fl.map V.int))) (z4:okG n fl) (z5:H g=some (.tup (x.map V.int))) (z6:okG n x) (z7:m<=9 * n) (z8:Stops (Fd fl bk) x m) (z9:∀ (r:Addr) (us:List V) (H':Hp),aM H H'->H r=none->H' r=some (.lst us)->fD H' us (cT (Fd fl bk) x m)->Q (.ref r) H'):oZ K vs H Q
def nO (K:Qu):Sp:=fun vs H Q _=>oZ K vs H Q
theorem qG {H:Hp} {us:List V} {F:List Int->List Int} {x:List Int} {j:Nat} (h:fD H us (cT F x j)):∃ a,atI us (-1)=some (.ref a)/\H a=some (.tup ((itF F x j).map V.int)):=by
 have hl:=h.length
 obtain⟨a,h1,h2⟩:=h.get (yD F x j)
 rw[← hl] at h1
 exact⟨a,Li h1,h2⟩
def BX (H:Hp) (r:Addr):Nat:=match H r with
 | some (.lst us)=>us.length
 | _=>0
theorem xV {H:Hp} {r:Addr} {us:List V} (h:H r=some (.lst us)):BX H r=us.length:=by unfold BX; rw[h]
theorem yJ {k:Nat} (F:Fun K "settled" "settled" mV f fd) (B:Bt mg)
  (D_what_is_due:Df P w K mg base "what_is_due" k ["book","floor","giving"] (KR K)):fj P w K mg base CX0 (k+1) f fd ["book","floor","giving"] (nO K):=by
 refine F.ok iM (fun vs H Q E h=>?_) (fun cdv A outer s H vs Q E hr h=>?_)
 ·obtain⟨b,f,g,n,bk,fl,x,m,rfl,_⟩:=h
  rfl
 ·obtain⟨b,f,g,n,bk,fl,x,m,rfl,hb,lb,hf,of,hg,ox,hm,st,q⟩:=h
  refine⟨_,(aA (aU (i:=3) iM.nd rfl (Qm rfl) (bK (aa (pv 2) aq)))
 (aA (aU (i:=4) iM.nd rfl (Qm rfl) (aY D_what_is_due hr (aa (pv 0) (aa (pv 1) (aa (pv 2) aq)))))
 (aA (qy Rt (aV (r:=Ja K) (Bb hr.nu) (pv 4) (bh (r:=gq K) aQ (pv 3) (IW zj aB) (fun _ _=>rfl)) (bf _)) (aA (gf (j8 QH Rq Rp cP (pv 3) (aa (pv 4) aq)))
 (aC (aU (i:=4) iM.nd rfl (Qm rfl) (aY D_what_is_due hr (aa (pv 0) (aa (pv 1) (aa (pv 4) aq))))))))
 (aC (aK (pv 3)))))),?_⟩
  have okb:=hb.okB
  have b12:n<=12:=by obtain⟨_,_,_,h⟩:=hb; lia
  have og:∀ j,okG n (itF (Fd fl bk) x j):=dG lb okb of ox
  have f0:∀ y∈fl,0<=y:=fun y hy=>(of.2 y hy).1
  have hlb:fl.length=bk.length:=by rw[of.1,lb]
  refine⟨_,rfl,small (by show 1<=1000; decide),fun r hr0=>?_⟩
  generalize eH1:upd H r _=H1
  obtain⟨g1,e1⟩:=aJ eH1 hr0
  refine⟨_,rfl,_,rfl,_,rfl,b,f,g,n,bk,fl,x,rfl,hb.mono g1,SqT.of (g1 _ _ hf),SqT.of (g1 _ _ hg),hlb,by rw[ox.1]; lia,f0,fun r1 H2 s2 er1=>?_⟩
  refine gN ?_
  refine Fo (fun σ H3=>∃ (j:Nat) (us:List V) (d:Addr),j<=m/\σ=[some (.ref b),some (.ref f),some (.ref g),some (.ref r),some (.ref d)]/\aM H H3/\H3 r=some (.lst us)/\fD H3 us (cT (Fd fl bk) x j)/\H3 d=some (.tup ((itF (Fd fl bk) x (j+1)).map V.int)))
   (fun _ H3=>m+2 - BX H3 r) ⟨0,[.ref g],r1,QB _,rfl,g1.trans s2,s2 _ _ e1,.cons (s2 _ _ (g1 _ _ hg)) (by rw[(og 0).1]; lia) .nil,er1⟩ ?_ ?_
  ·rintro σ H3 ⟨j,us,d,hj,rfl,s3,er,gr,ed⟩
   obtain⟨a,ha,ea⟩:=qG gr
   have lu:=gr.length
   rw[dj] at lu
   refine⟨_,rfl,_,rfl,_,rfl,r,_,_,_,rfl,rfl,SqL.of er,ha,d,a,_,_,rfl,rfl,SqT.of ed,SqT.of ea,_,rfl,?_⟩
   by_cases e:itF (Fd fl bk) x (j+1)=itF (Fd fl bk) x j
   ·rw[decide_eq_true e]
    refine gG ?_
    have ej:j=m:=by
     rcases Sh j m with z | z
     ·exact absurd e (st.2 j z)
     ·lia
    subst ej
    exact⟨_,rfl,q r us H3 s3 hr0 er gr⟩
   ·rw[decide_eq_false e]
    refine jw ?_
    have hjm:j < m:=by
     rcases Sh j m with z | z
     ·exact z
     ·have:j=m:=by lia
      subst this
      exact absurd st.1 e
    refine⟨_,rfl,.inl ⟨rfl,_,SqL.of er⟩,_,rfl,r,_,_,rfl,rfl,er,aD (by lia),?_⟩
    have tk:=bR (zs':=us++[.ref d]) er
    have s4:aM H (upd H3 r (.lst (us++[.ref d]))):=aF s3 hr0 _
    refine⟨_,rfl,_,rfl,_,rfl,b,f,d,n,bk,fl,_,rfl,hb.mono s4,SqT.of (s4 _ _ hf),SqT.of (tk _ _ ed),hlb,by rw[(og (j+1)).1]; lia,f0,fun r5 H5 s5 er5=>?_⟩
    have er':H5 r=some (.lst (us++[.ref d])):=s5 _ _ aj
    refine⟨⟨j+1,us++[.ref d],r5,hjm,rfl,s4.trans s5,er',?_,er5⟩,?_⟩
    ·rw[yL]
     exact ((gr.bu tk).snoc (tk _ _ ed) (by rw[(og (j+1)).1]; lia)).mono s5
    ·show m+2 - BX H5 r < m+2 - BX H3 r
     rw[xV er',xV er,Qj]
     show m+2 - (us.length+1) < m+2 - us.length
     lia
  ·rintro σ H3 Q1 Q2 hQ ⟨v1,h1,v2,h2,i0,h3,p,xs,i,z,h4,h5,h6,h7,a1,a2,ns,ms,h8,h9,h10,h11,c,h12,qq⟩
   exact⟨v1,h1,v2,h2,i0,h3,p,xs,i,z,h4,h5,h6,h7,a1,a2,ns,ms,h8,h9,h10,h11,c,h12,hQ _ _ qq⟩
def kI (st:List Int->List (List Pl)->List Int):Sp:=fun vs H Q _=>∃ (b f:Addr) (n:Nat) (bk:List (List Pl)) (fl:List Int),vs=[.ref b,.ref f]/\ou n H b bk/\bk.length=n/\H f=some (.tup (fl.map V.int))/\okG n fl ∧
 ∀ (m:Nat) (r:Addr) (us:List V) (H':Hp),m<=9 * n->Stops (Fd fl bk) (st fl bk) m->aM H H'->H r=none->H' r=some (.lst us)->fD H' us (cT (Fd fl bk) (st fl bk) m)->Q (.ref r) H'
def ue (st:List Int->List (List Pl)->List Int):Sp:=fun vs H Q _=>∃ (b f:Addr) (n:Nat) (bk:List (List Pl)) (fl:List Int),vs=[.ref b,.ref f]/\ou n H b bk/\bk.length=n/\H f=some (.tup (fl.map V.int))/\okG n fl ∧
 ∀ (m:Nat) (a:Addr) (H':Hp),m<=9 * n->Stops (Fd fl bk) (st fl bk) m->aM H H'->H' a=some (.tup ((itF (Fd fl bk) (st fl bk) m).map V.int))->Q (.ref a) H'
abbrev Kp:List Int->List (List Pl)->List Int:=fun fl _=>fl
theorem kY {n:Nat} {fl:List Int} {bk:List (List Pl)} (hb:bk.length=n) (ok:okB bk) (hf:okG n fl):∃ m,m<=9 * n/\Stops (Fd fl bk) fl m:=Eu hb ok hf hf (m8 hb ok hf fl)
theorem kE {n:Nat} {fl:List Int} {bk:List (List Pl)} (hb:bk.length=n) (ok:okB bk) (hf:okG n fl):∃ m,m<=9 * n/\Stops (Fd fl bk) (rfF fl bk) m:=yM hb ok hf (dF hb ok hf) (wN hb ok hf _)
abbrev Dh:Stmt:=top 13
abbrev vQ:Stmt:=top 15
theorem Jk:aW ["book","floor"] ["book","floor"] (aH Dh):=⟨rfl,rfl,rfl,by decide+kernel,rfl,by decide+kernel,by decide+kernel⟩
theorem FW:aW ["book","floor"] ["book","floor"] (aH vQ):=⟨rfl,rfl,rfl,by decide+kernel,rfl,by decide+kernel,by decide+kernel⟩
theorem Jd {k:Nat} (F:Fun K "rise" "rise" Dh f fd) (B:Bt mg)
  (D_settled:Df P w K mg base "settled" k ["book","floor","giving"] (nO K)):fj P w K mg base CX0 (k+1) f fd ["book","floor"] (kI Kp):=by
 refine F.ok Jk (fun vs H Q E h=>?_) (fun cdv A outer s H vs Q E hr h=>?_)
 ·obtain⟨b,f,n,bk,fl,rfl,_⟩:=h
  rfl
 ·obtain⟨b,f,n,bk,fl,rfl,hb,lb,hf,of,q⟩:=h
  refine⟨_,(aC (aK (aY D_settled hr (aa (pv 0) (aa (pv 1) (aa (pv 1) aq)))))),?_⟩
  obtain⟨m,hm,st⟩:=kY lb hb.okB of
  exact⟨_,rfl,_,rfl,_,rfl,b,f,f,n,bk,fl,fl,m,rfl,hb,lb,hf,of,hf,of,hm,st,fun r us H' s1 fr er gr=>q m r us H' hm st s1 fr er gr⟩
theorem Ft {k:Nat} (F:Fun K "least" "least" vQ f fd) (B:Bt mg)
  (D_rise:Df P w K mg base "rise" k ["book","floor"] (kI Kp)):fj P w K mg base CX0 (k+1) f fd ["book","floor"] (ue Kp):=by
 refine F.ok FW (fun vs H Q E h=>?_) (fun cdv A outer s H vs Q E hr h=>?_)
 ·obtain⟨b,f,n,bk,fl,rfl,_⟩:=h
  rfl
 ·obtain⟨b,f,n,bk,fl,rfl,hb,lb,hf,of,q⟩:=h
  refine⟨_,(aC (aK (bh (r:=gq K) aQ (aY D_rise hr (aa (pv 0) (aa (pv 1) aq))) (IW zj aB) (fun _ _=>rfl)))),?_⟩
  refine⟨_,rfl,_,rfl,b,f,n,bk,fl,rfl,hb,lb,hf,of,fun m r us H' hm st s1 fr er gr=>?_⟩
  obtain⟨a,ha,ea⟩:=qG gr
  exact⟨_,rfl,r,_,_,_,rfl,rfl,SqL.of er,ha,q m a H' hm st s1 ea⟩
abbrev Cz:Stmt:=top 14
abbrev kW:Stmt:=top 16
theorem Jh:aW ["book","floor"] ["book","floor"] (aH Cz):=⟨rfl,rfl,rfl,by decide+kernel,rfl,by decide+kernel,by decide+kernel⟩
theorem vX:aW ["book","floor"] ["book","floor"] (aH kW):=⟨rfl,rfl,rfl,by decide+kernel,rfl,by decide+kernel,by decide+kernel⟩
theorem JN {k:Nat} (hk:2<=k) (F:Fun K "fall" "fall" Cz f fd) (B:Bt mg)
  (D_settled:Df P w K mg base "settled" k ["book","floor","giving"] (nO K)) (D_roof:Df P w K mg base "roof" 2 ["book","floor"] (HJ K)):fj P w K mg base CX0 (k+1) f fd ["book","floor"] (kI rfF):=by
 refine F.ok Jh (fun vs H Q E h=>?_) (fun cdv A outer s H vs Q E hr h=>?_)
 ·obtain⟨b,f,n,bk,fl,rfl,_⟩:=h
  rfl
 ·obtain⟨b,f,n,bk,fl,rfl,hb,lb,hf,of,q⟩:=h
  refine⟨_,(aC (aK (aY D_settled hr (aa (pv 0) (aa (pv 1) (aa (aY D_roof hr (aa (pv 0) (aa (pv 1) aq))) aq)))))),?_⟩
  obtain⟨m,hm,st⟩:=kE lb hb.okB of
  exact⟨_,rfl,_,rfl,_,rfl,_,rfl,b,f,n,bk,fl,rfl,hb,SqT.of hf,by rw[of.1,lb],fun r1 H1 s1 e1=>⟨b,f,r1,n,bk,fl,rfF fl bk,m,rfl,hb.mono s1,lb,s1 _ _ hf,of,e1,dF lb hb.okB of,hm,st,fun r us H' s2 fr er gr=>q m r us H' hm st (s1.trans s2) (s1.free fr) er gr⟩⟩
theorem vI {k:Nat} (F:Fun K "greatest" "greatest" kW f fd) (B:Bt mg)
  (D_fall:Df P w K mg base "fall" k ["book","floor"] (kI rfF)):fj P w K mg base CX0 (k+1) f fd ["book","floor"] (ue rfF):=by
 refine F.ok vX (fun vs H Q E h=>?_) (fun cdv A outer s H vs Q E hr h=>?_)
 ·obtain⟨b,f,n,bk,fl,rfl,_⟩:=h
  rfl
 ·obtain⟨b,f,n,bk,fl,rfl,hb,lb,hf,of,q⟩:=h
  refine⟨_,(aC (aK (bh (r:=gq K) aQ (aY D_fall hr (aa (pv 0) (aa (pv 1) aq))) (IW zj aB) (fun _ _=>rfl)))),?_⟩
  refine⟨_,rfl,_,rfl,b,f,n,bk,fl,rfl,hb,lb,hf,of,fun m r us H' hm st s1 fr er gr=>?_⟩
  obtain⟨a,ha,ea⟩:=qG gr
  exact⟨_,rfl,r,_,_,_,rfl,rfl,SqL.of er,ha,q m a H' hm st s1 ea⟩
theorem LeG.trans {a b c:List Int} (h:LeG a b) (k:LeG b c):LeG a c:=fun i=>Int.le_trans (h i) (k i)
section
variable {n:Nat} {fl:List Int} {bk:List (List Pl)}
theorem rN (hb:bk.length=n) (ok:okB bk) (hf:okG n fl) {g:List Int} (h:LeG (eX g fl bk) g):∀ k,LeG (itF (Fd fl bk) fl k) g
 | 0=>(m8 hb ok hf g).trans h
 | k+1=>(mq hb ok hf (rN hb ok hf h k)).trans h
theorem nH (hb:bk.length=n) (ok:okB bk) (hf:okG n fl) {g:List Int} (h:LeG g (eX g fl bk)):∀ k,LeG g (itF (Fd fl bk) (rfF fl bk) k)
 | 0=>h.trans (wN hb ok hf g)
 | k+1=>h.trans (mq hb ok hf (nH hb ok hf h k))
end
theorem fD.at {H:Hp}:∀ {us:List V} {gs:List (List Int)} {i:Nat} {v:V},fD H us gs->us[i]? = some v->∃ a g,v = .ref a/\gs[i]? = some g/\H a=some (.tup (g.map V.int))/\g.length<=1000
 | _,_,_,_,.nil,h=>by simp at h
 | _,_,0,_,.cons h l _,e=>by
  cases (show some _=some _ from e)
  exact⟨_,_,rfl,rfl,h,l⟩
 | _,_,i+1,_,.cons _ _ r,e=>by
  obtain⟨a,g,h1,h2,h3⟩:=fD.at (i:=i) r (by simpa using e)
  exact⟨a,g,h1,by simpa using h2,h3⟩
section
variable {K:Qu} {σ:St} {H:Hp} {Q:V->Hp->Prop} {i j:Nat} {a:Addr} {k:Nat} {xs:List V}
end
section
variable {n:Nat} {fl:List Int} {bk:List (List Pl)}
theorem Fx {i:Nat} (h:i < bk.length):bk.getD i []=bk[i]:=by rw[PL,PJ h]; rfl
theorem fJ {g g':List Int} (hl:g.length=g'.length) (h:LeG g g') (h':LeG g' g):g=g':=by
 have e1:=gF hl fun i _=>h i
 have e2:=gF hl.symm fun i _=>h' i
 exact e1.2 (by lia)
end
section
variable {n:Nat} {fl fl':List Int} {bk:List (List Pl)}
theorem jo (hb:bk.length=n) (hf:okG n fl) (g:List Int) {i:Nat} (hi:i < n):(eX g fl bk).getD i 0=max (fl.getD i 0) (duF g 0 (bk.getD i [])):=by
 have h1:i < fl.length:=by rw[hf.1]; exact hi
 have h2:i < bk.length:=by lia
 unfold eX
 rw[fH (duF g) h1 h2,Fx h2]
 exact Fy g (dB hf hi).1 _
theorem oH {g g':List Int} (hg:g.length=n) (hg':g'.length=n) (h:∀ i < n,g.getD i 0<=g'.getD i 0):LeG g g':=iC (by lia) fun i hi=>h i (by lia)
end
def Ii (x:Nat):List Nat->List Nat
 | []=>[x]
 | y::r=>if x<=y then x::y::r else y::Ii x r
def mJ:List Nat->List Nat
 | []=>[]
 | x::r=>Ii x (mJ r)
theorem mC (x:Nat):∀ l:List Nat,(Ii x l).Perm (x::l)
 | []=>.refl _
 | y::r=>by
  rw[Ii]
  split
  ·exact .refl _
  ·exact ((mC x r).cons y).trans (.swap x y r)
theorem cG:∀ l:List Nat,(mJ l).Perm l
 | []=>.refl _
 | x::r=>(mC x _).trans ((cG r).cons x)
theorem nq (x:Nat):∀ {l:List Nat},l.Pairwise (·<=·)->(Ii x l).Pairwise (·<=·)
 | [],_=>by rw[Ii]; simp
 | y::r,h=>by
  rw[Ii]
  rw[R7] at h
  split
  ·rw[R7,R7]
   refine⟨fun z hz=>?_,h⟩
   rcases List.mem_cons.mp hz with rfl | hz
   ·assumption
   ·have:=h.1 z hz
    lia
  ·rw[R7]
   refine⟨fun z hz=>?_,nq x h.2⟩
   rcases List.mem_cons.mp ((mC x r).mem_iff.mp hz) with rfl | hz
   ·lia
   ·exact h.1 z hz
theorem dR:∀ l:List Nat,(mJ l).Pairwise (·<=·)
 | []=>by rw[mJ]; simp
 | x::r=>nq x (dR r)
theorem pY {l:List Nat} {ms:List Int} (p:ms.Perm (l.map fun i:Nat=>(i:Int))) (h:ms.Pairwise (·<=·)):ms=(mJ l).map fun i:Nat=>(i:Int):=by
 refine jQ (p.trans ((cG l).map _).symm) h ?_
 rw[RP]
 exact (dR l).imp fun h=>by lia
mutual
def ren (f:Nat->Nat):Tm->Tm
 | .free=>.free
 | .never=>.never
 | .gives i k=>.gives (f i) k
 | .sum c k=>.sum (mJ (c.map f)) k
 | .crowd c k m=>.crowd (mJ (c.map f)) k m
 | .all ts=>.all (qm f ts)
 | .any ts=>.any (qm f ts)
def qm (f:Nat->Nat):List Tm->List Tm
 | []=>[]
 | t::r=>ren f t::qm f r
end
theorem jy (f:Nat->Nat):∀ ts:List Tm,qm f ts=ts.map (ren f)
 | []=>by rw[qm]; rfl
 | t::r=>by rw[qm,jy f r]; rfl
mutual
theorem vo (f:Nat->Nat):∀ t:Tm,(ren f t).dep=t.dep
 | .free=>by rw[ren]
 | .never=>by rw[ren]
 | .gives i k=>by rw[ren,Tm.dep,Tm.dep] <;> simp
 | .sum c k=>by rw[ren,Tm.dep,Tm.dep] <;> simp
 | .crowd c k m=>by rw[ren,Tm.dep,Tm.dep] <;> simp
 | .all ts=>by rw[ren,Tm.dep,Tm.dep,qw f ts]
 | .any ts=>by rw[ren,Tm.dep,Tm.dep,qw f ts]
theorem qw (f:Nat->Nat):∀ ts:List Tm,tdL (qm f ts)=tdL ts
 | []=>by rw[qm]
 | t::r=>by rw[qm,tdL,tdL,vo f t,qw f r]
end
def dh (rs:List Nat) (i:Nat):Nat:=rs.getD i 0
theorem qI {rs:List Nat} {i:Nat} (h:i < rs.length):dh rs i∈rs:=by
 unfold dh
 rw[PL,PJ h]
 exact Rg h
theorem DW {rs:List Nat} (nd:rs.Nodup) {i j:Nat} (hi:i < rs.length) (hj:j < rs.length) (hij:i < j):dh rs i≠dh rs j:=by
 unfold dh
 rw[PL,PJ hi,PL,PJ hj]
 exact List.pairwise_iff_getElem.mp nd i j hi hj hij
theorem qP {rs c:List Nat} {m n:Nat} (nd:rs.Nodup) (hm:m<=rs.length) (hv:∀ x∈rs,x < n) (hc:∀ i∈c,i < m) (hp:c.Pairwise (· < ·)) :
  (∀ i∈mJ (c.map (dh rs)),i < n)/\(mJ (c.map (dh rs))).Pairwise (· < ·)/\(mJ (c.map (dh rs))).length=c.length:=by
 have pm:=cG (c.map (dh rs))
 refine⟨fun i hi=>?_,?_,by rw[pm.length_eq,Py]⟩
 ·obtain⟨j,hj,rfl⟩:=List.mem_map.mp (pm.mem_iff.mp hi)
  exact hv _ (qI (Qp (hc j hj) hm))
 ·have nd2:(c.map (dh rs)).Nodup:=by
   show (c.map (dh rs)).Pairwise (·≠·)
   rw[RP]
   exact Tw (fun {a b} ha hb h=>DW nd (Qp (hc a ha) hm) (Qp (hc b hb) hm) h) hp
  have nd3:(mJ (c.map (dh rs))).Nodup:=pm.nodup_iff.mpr nd2
  exact ((dR _).and nd3).imp fun h=>by lia
theorem pF {rs:List Nat} {i:Nat} (h:i < rs.length):atI (rs.map vN) (i:Int)=some (vN (dh rs i)):=by
 refine iG ?_
 unfold dh
 rw[Qn,PL,PJ h]
 rfl
theorem M6 {b:Bool} {A B:Prop} (h:b=true) (a:A):if b=true then A else B:=by rw[if_pos h]; exact a
theorem yc {b:Bool} {A B:Prop} (h:b=false) (a:B):if b=true then A else B:=by rw[if_neg (by rw[h]; exact Qc)]; exact a
abbrev gU:Stmt:=top 33
theorem oV:aW ["_law_term_here","_law_row"] ["_law_term_here","_law_row"] (aH gU):=⟨rfl,rfl,rfl,by decide+kernel,rfl,by decide+kernel,by decide+kernel⟩
inductive GC (K:Qu) (d:Nat) (vs:List V) (H:Hp) (Q:VK):Prop where
 | mk (v:V) (row:Addr) (m n:Nat) (t:Tm) (rs:List Nat) (z0:vs=[v,.ref row]) (z1:iY m H v t) (z2:t.dep<=d) (z3:SqL K H row (rs.map vN)) (z4:m<=rs.length) (z5:rs.Nodup) (z6:(∀ x∈rs,x < n)) (z7:∀ (v':V) (H':Hp),aM H H'->iY n H' v' (ren (dh rs) t)->Q v' H'):GC K d vs H Q
def uZ (K:Qu) (d:Nat):Sp:=fun vs H Q _=>GC K d vs H Q
theorem DN:fj P w K mg base CX0 0 f fd ["_law_term_here","_law_row"] (uZ K 0):=by
 have no:∀ vs H Q E,¬ uZ K 0 vs H Q E:=fun vs H Q E h=>by
  obtain⟨v,row,m,n,t,rs,_,_,h1,_⟩:=h
  have:=t.zR
  lia
 exact⟨fun vs H Q E h=>absurd h (no vs H Q E),fun A outer s H args us vs Q E _ _ _ _ h=>absurd h (no vs H Q E)⟩
theorem vd {K:Qu} {H H':Hp} {a:Addr} {xs:List V} (e:aM H H') (h:SqL K H a xs):SqL K H' a xs:=e.seq h
theorem eU {d:Nat} (F:Fun K "_law_renamed" "_law_renamed" gU f fd) (B:Bt mg)
  (D_law_renamed:Df P w K mg base "_law_renamed" d ["_law_term_here","_law_row"] (uZ K d)):fj P w K mg base CX0 (d+1) f fd ["_law_term_here","_law_row"] (uZ K (d+1)):=by
 refine F.ok oV (fun vs H Q E h=>?_) (fun cdv A outer s H vs Q E hr h=>?_)
 ·obtain⟨v,row,m,n,t,rs,rfl,_⟩:=h
  rfl
 ·obtain⟨v,row,m,n,t,rs,rfl,rt,hd,hR,hm,nd,hv,q⟩:=h
  refine⟨_,(aA (bZ (aV gO (bh (r:=jP K) bW (pv 0) aB (fun _ _=>rfl)) cH (bf _)) (aC (aK (bU (aa cH (aa (bh (r:=gq K) aQ (pv 1) (bh (r:=jP K) bW (pv 0) aB (fun _ _=>rfl)) (fun _ _=>rfl)) (aa (bh (r:=jP K) bW (pv 0) aB (fun _ _=>rfl)) aq)))))) aX)
 (aA (bZ (aV (r:=rIn K false) jO (bh (r:=jP K) bW (pv 0) aB (fun _ _=>rfl)) (bU (aa cH (aa cH aq))) rfl) (aC (aK (aO (r:=GZ K) DR (bU (aa (bh (r:=jP K) bW (pv 0) aB (fun _ _=>rfl)) (aa (bG (r:=fC K) bB rfl B.tuple_ bQ (aa (aL (r:=wI K) jZ rfl B.sorted_ (by decide+kernel) (aa (bA (L:=["_law_one"]) (F:=["_law_row"]) (cap:=[1]) rfl (bj rfl rfl (by kernel_rfl)) (iU (bh (r:=jP K) bW (pv 0) aB (fun _ _=>rfl))) (fun _ _ _ _ _=>(aG (i:=0) (aP (by decide+kernel)) rfl (Qm rfl))) (fun _ _ _ _ _=>bC) (fun _ _ _ _ _=>(bh (r:=gq K) aQ (pv 1) (pv 0) (fun _ _=>rfl)))) aq)) aq)) aq))) (xU (r:=Ol K) Kw (pv 0) (Ck aB) Cd)))) aX)
 (aA (bZ (aV (r:=rIn K false) jO (bh (r:=jP K) bW (pv 0) aB (fun _ _=>rfl)) (bU (aa cH (aa cH aq))) rfl) (aC (aK (bU (aa (bh (r:=jP K) bW (pv 0) aB (fun _ _=>rfl)) (aa (bG (r:=fC K) bB rfl B.tuple_ bQ (aa (bA (L:=["_law_part"]) (F:=["_law_row"]) (cap:=[1]) rfl (bj rfl rfl (by kernel_rfl)) (iU (bh (r:=jP K) bW (pv 0) aB (fun _ _=>rfl))) (fun _ _ _ _ _=>(aG (i:=0) (aP (by decide+kernel)) rfl (Qm rfl))) (fun _ _ _ _ _=>bC) (fun _ _ _ _ _=>(aY D_law_renamed hr (aa (pv 0) (aa (pv 1) aq))))) aq)) aq))))) aX)
 (aC (aK (pv 0)))))),?_⟩
  cases rt with
  | @free a ha =>
   refine⟨_,rfl,a,_,_,_,rfl,rfl,SqT.of ha,aR (k:=0) rfl,rfl,_,rfl,lF (cg (by decide)) ?_⟩
   refine⟨_,rfl,a,_,_,_,rfl,rfl,SqT.of ha,aR (k:=0) rfl,small (by show 2<=1000; decide),fun p1 h1=>⟨p1,_,rfl,.inr (SqT.of aj),rfl,rfl,_,rfl,yc (by decide+kernel) ?_⟩⟩
   generalize eH1:upd H p1 _=H1
   obtain⟨g1,_⟩:=aJ eH1 h1
   refine⟨_,rfl,a,_,_,_,rfl,rfl,SqT.of (g1 _ _ ha),aR (k:=0) rfl,small (by show 2<=1000; decide),fun p2 h2=>⟨p2,_,rfl,.inr (SqT.of aj),rfl,rfl,_,rfl,yc (by decide+kernel) ?_⟩⟩
   generalize eH2:upd H1 p2 _=H2
   obtain⟨g2,_⟩:=aJ eH2 h2
   refine⟨_,rfl,?_⟩
   have q':=q (.ref a) H2 (g1.trans g2) (by rw[ren]; exact .free (g2 _ _ (g1 _ _ ha)))
   exact q'
  | @never a ha =>
   refine⟨_,rfl,a,_,_,_,rfl,rfl,SqT.of ha,aR (k:=0) rfl,rfl,_,rfl,lF (cg (by decide)) ?_⟩
   refine⟨_,rfl,a,_,_,_,rfl,rfl,SqT.of ha,aR (k:=0) rfl,small (by show 2<=1000; decide),fun p1 h1=>⟨p1,_,rfl,.inr (SqT.of aj),rfl,rfl,_,rfl,yc (by decide+kernel) ?_⟩⟩
   generalize eH1:upd H p1 _=H1
   obtain⟨g1,_⟩:=aJ eH1 h1
   refine⟨_,rfl,a,_,_,_,rfl,rfl,SqT.of (g1 _ _ ha),aR (k:=0) rfl,small (by show 2<=1000; decide),fun p2 h2=>⟨p2,_,rfl,.inr (SqT.of aj),rfl,rfl,_,rfl,yc (by decide+kernel) ?_⟩⟩
   generalize eH2:upd H1 p2 _=H2
   obtain⟨g2,_⟩:=aJ eH2 h2
   refine⟨_,rfl,?_⟩
   have q':=q (.ref a) H2 (g1.trans g2) (by rw[ren]; exact .never (g2 _ _ (g1 _ _ ha)))
   exact q'
  | @gives a i k ha hi k1 k9 =>
   refine⟨_,rfl,a,_,_,_,rfl,rfl,SqT.of ha,aR (k:=0) rfl,rfl,_,rfl,Ko rfl ?_⟩
   refine⟨_,rfl,_,rfl,a,_,_,_,rfl,rfl,SqT.of ha,aR (k:=1) rfl,row,_,_,_,rfl,rfl,hR,pF (by lia),_,rfl,a,_,_,_,rfl,rfl,SqT.of ha,aR (k:=2) rfl,small (by show 3<=1000; decide),fun p1 h1=>?_⟩
   refine q (.ref p1) _ (au h1 _) ?_
   rw[ren]
   exact .gives aj (hv _ (qI (by lia))) k1 k9
  | @sum a b c k ha hb hc hp l20 l2 k1 k99 =>
   obtain⟨x1,x2,x3⟩:=qP nd hm hv hc hp
   refine⟨_,rfl,a,_,_,_,rfl,rfl,SqT.of ha,aR (k:=0) rfl,rfl,_,rfl,lF (cg (by decide)) ?_⟩
   refine⟨_,rfl,a,_,_,_,rfl,rfl,SqT.of ha,aR (k:=0) rfl,small (by show 2<=1000; decide),fun p1 h1=>⟨p1,_,rfl,.inr (SqT.of aj),rfl,rfl,_,rfl,M6 (by decide+kernel) ?_⟩⟩
   generalize eH1:upd H p1 _=H1
   obtain⟨g1,_⟩:=aJ eH1 h1
   refine⟨_,rfl,a,_,_,_,rfl,rfl,SqT.of (g1 _ _ ha),aR (k:=0) rfl,?_⟩
   refine⟨_,rfl,a,_,_,_,rfl,rfl,SqT.of (g1 _ _ ha),aR (k:=1) rfl,b,rfl,⟨_,SqT.of (g1 _ _ hb)⟩,fun D hD=>fG (K:=K) (a:=b) (xs:=c.map vN) (fun i zs σ' H2=>(∃ u,σ'=[u,some (.ref row)])/\zs=((c.take i).map (dh rs)).map vN/\aM H1 H2/\H2 D=some (.lst zs))
    ⟨⟨_,rfl⟩,rfl,au hD _,aj⟩ (fun i zs σ' H2 _ h=>⟨SqT.of (h.2.2.1 _ _ (g1 _ _ hb)),h.2.2.2⟩) ?_ ?_⟩
   ·rintro j zs x σ' H2 hx ⟨⟨u,rfl⟩,e1,sm,hDl⟩
    obtain⟨i,hi,rfl⟩:=sJ hx
    have him:=hc i (Qy hi)
    refine gT ?_
    refine⟨_,rfl,_,rfl,row,_,_,_,rfl,rfl,vd (g1.trans sm) hR,pF (by lia),hDl,?_,⟨_,rfl⟩,?_,aF sm hD _,aj⟩
    ·rw[e1,Py,Py,Ql]
     exact aD (by lia)
    ·rw[e1,take_snoc (dh rs) hi,PQ]
     rfl
   ·rintro zs σ' H2 ⟨_,e1,sm,hDl⟩
    rw[Py,Qk] at e1
    refine⟨D,(c.map (dh rs)).map fun i:Nat=>(i:Int),rfl,SqL.of (by rw[hDl,e1,eG]),by rw[Py,Py]; lia,fun ms pm so l hl=>?_⟩
    rw[pY pm so,← eG]
    generalize eH3:upd H2 l _=H3
    obtain⟨g3,e3⟩:=aJ eH3 hl
    refine⟨l,_,rfl,.inl ⟨SqL.of e3,fun p4 h4=>?_⟩⟩
    generalize eH4:upd H3 p4 _=H4
    obtain⟨g4,e4⟩:=aJ eH4 h4
    refine⟨small (by show 2<=1000; decide),fun p5 h5=>?_⟩
    generalize eH5:upd H4 p5 _=H5
    obtain⟨g5,e5⟩:=aJ eH5 h5
    have s5:aM H H5:=g1.trans (sm.trans (g3.trans (g4.trans g5)))
    refine⟨_,rfl,_,rfl,a,_,rfl,SqT.of (s5 _ _ ha),(by show ¬ (HT.sIx 3 0 (some 2)=0/\HT.sIx 3 3 none=3); decide),fun p6 h6=>?_⟩
    have ec:Dv [V.str "sum",.ref b,.int k] (some 2) none=[.int k]:=rfl
    rw[ec]
    generalize eH6:upd H5 p6 _=H6
    obtain⟨g6,e6⟩:=aJ eH6 h6
    refine⟨p5,p6,_,_,rfl,rfl,SqT.of (g6 _ _ e5),SqT.of e6,small (by show 3<=1000; decide),fun z=>(by cases z),fun _ z=>(by cases z),fun _ _ p7 h7=>?_⟩
    refine q (.ref p7) _ (s5.trans (g6.trans (au h7 _))) ?_
    rw[ren]
    exact .sum aj (au h7 _ _ _ (g6 _ _ (g5 _ _ e4))) x1 x2 (by lia) (by lia) k1 k99
  | @crowd a b c k mm ha hb hc hp l20 l1 k1 k9 m1 m12 =>
   obtain⟨x1,x2,x3⟩:=qP nd hm hv hc hp
   refine⟨_,rfl,a,_,_,_,rfl,rfl,SqT.of ha,aR (k:=0) rfl,rfl,_,rfl,lF (cg (by decide)) ?_⟩
   refine⟨_,rfl,a,_,_,_,rfl,rfl,SqT.of ha,aR (k:=0) rfl,small (by show 2<=1000; decide),fun p1 h1=>⟨p1,_,rfl,.inr (SqT.of aj),rfl,rfl,_,rfl,M6 (by decide+kernel) ?_⟩⟩
   generalize eH1:upd H p1 _=H1
   obtain⟨g1,_⟩:=aJ eH1 h1
   refine⟨_,rfl,a,_,_,_,rfl,rfl,SqT.of (g1 _ _ ha),aR (k:=0) rfl,?_⟩
   refine⟨_,rfl,a,_,_,_,rfl,rfl,SqT.of (g1 _ _ ha),aR (k:=1) rfl,b,rfl,⟨_,SqT.of (g1 _ _ hb)⟩,fun D hD=>fG (K:=K) (a:=b) (xs:=c.map vN) (fun i zs σ' H2=>(∃ u,σ'=[u,some (.ref row)])/\zs=((c.take i).map (dh rs)).map vN/\aM H1 H2/\H2 D=some (.lst zs))
    ⟨⟨_,rfl⟩,rfl,au hD _,aj⟩ (fun i zs σ' H2 _ h=>⟨SqT.of (h.2.2.1 _ _ (g1 _ _ hb)),h.2.2.2⟩) ?_ ?_⟩
   ·rintro j zs x σ' H2 hx ⟨⟨u,rfl⟩,e1,sm,hDl⟩
    obtain⟨i,hi,rfl⟩:=sJ hx
    have him:=hc i (Qy hi)
    refine gT ?_
    refine⟨_,rfl,_,rfl,row,_,_,_,rfl,rfl,vd (g1.trans sm) hR,pF (by lia),hDl,?_,⟨_,rfl⟩,?_,aF sm hD _,aj⟩
    ·rw[e1,Py,Py,Ql]
     exact aD (by lia)
    ·rw[e1,take_snoc (dh rs) hi,PQ]
     rfl
   ·rintro zs σ' H2 ⟨_,e1,sm,hDl⟩
    rw[Py,Qk] at e1
    refine⟨D,(c.map (dh rs)).map fun i:Nat=>(i:Int),rfl,SqL.of (by rw[hDl,e1,eG]),by rw[Py,Py]; lia,fun ms pm so l hl=>?_⟩
    rw[pY pm so,← eG]
    generalize eH3:upd H2 l _=H3
    obtain⟨g3,e3⟩:=aJ eH3 hl
    refine⟨l,_,rfl,.inl ⟨SqL.of e3,fun p4 h4=>?_⟩⟩
    generalize eH4:upd H3 p4 _=H4
    obtain⟨g4,e4⟩:=aJ eH4 h4
    refine⟨small (by show 2<=1000; decide),fun p5 h5=>?_⟩
    generalize eH5:upd H4 p5 _=H5
    obtain⟨g5,e5⟩:=aJ eH5 h5
    have s5:aM H H5:=g1.trans (sm.trans (g3.trans (g4.trans g5)))
    refine⟨_,rfl,_,rfl,a,_,rfl,SqT.of (s5 _ _ ha),(by show ¬ (HT.sIx 4 0 (some 2)=0/\HT.sIx 4 4 none=4); decide),fun p6 h6=>?_⟩
    have ec:Dv [V.str "crowd",.ref b,.int k,.int mm] (some 2) none=[.int k,.int mm]:=rfl
    rw[ec]
    generalize eH6:upd H5 p6 _=H6
    obtain⟨g6,e6⟩:=aJ eH6 h6
    refine⟨p5,p6,_,_,rfl,rfl,SqT.of (g6 _ _ e5),SqT.of e6,small (by show 4<=1000; decide),fun z=>(by cases z),fun _ z=>(by cases z),fun _ _ p7 h7=>?_⟩
    refine q (.ref p7) _ (s5.trans (g6.trans (au h7 _))) ?_
    rw[ren]
    exact .crowd aj (au h7 _ _ _ (g6 _ _ (g5 _ _ e4))) x1 x2 (by lia) (by lia) k1 k9 m1 m12
  | @all a b us ts ha hb l2 l6 rl =>
   have hdl:tdL ts<=d:=by rw[Tm.dep] at hd; lia
   have el:=rl.length
   refine⟨_,rfl,a,_,_,_,rfl,rfl,SqT.of ha,aR (k:=0) rfl,rfl,_,rfl,lF (cg (by decide)) ?_⟩
   refine⟨_,rfl,a,_,_,_,rfl,rfl,SqT.of ha,aR (k:=0) rfl,small (by show 2<=1000; decide),fun p1 h1=>⟨p1,_,rfl,.inr (SqT.of aj),rfl,rfl,_,rfl,yc (by decide+kernel) ?_⟩⟩
   generalize eH1:upd H p1 _=H1
   obtain⟨g1,_⟩:=aJ eH1 h1
   refine⟨_,rfl,a,_,_,_,rfl,rfl,SqT.of (g1 _ _ ha),aR (k:=0) rfl,small (by show 2<=1000; decide),fun p2 h2=>⟨p2,_,rfl,.inr (SqT.of aj),rfl,rfl,_,rfl,M6 (by decide+kernel) ?_⟩⟩
   generalize eH2:upd H1 p2 _=H2
   obtain⟨g2,_⟩:=aJ eH2 h2
   have s2:aM H H2:=g1.trans g2
   refine⟨_,rfl,a,_,_,_,rfl,rfl,SqT.of (s2 _ _ ha),aR (k:=0) rfl,?_⟩
   refine⟨_,rfl,a,_,_,_,rfl,rfl,SqT.of (s2 _ _ ha),aR (k:=1) rfl,b,rfl,⟨_,SqT.of (s2 _ _ hb)⟩,fun D hD=>fG (K:=K) (a:=b) (xs:=us) (fun i zs σ' H3=>(∃ u,σ'=[u,some (.ref row)])/\zs.length=i/\aM H2 H3/\H3 D=some (.lst zs)/\c7 n H3 zs (qm (dh rs) (ts.take i)))
    ⟨⟨_,rfl⟩,rfl,au hD _,aj,by rw[Ry,qm]; exact .nil⟩ (fun i zs σ' H3 _ h=>⟨SqT.of (h.2.2.1 _ _ (s2 _ _ hb)),h.2.2.2.1⟩) ?_ ?_⟩
   ·rintro j zs x σ' H3 hx ⟨⟨u,rfl⟩,lz,sm,hDl,rz⟩
    obtain⟨t,ht,rt⟩:=rl.get hx
    have hj:=(List.getElem?_eq_some_iff.mp hx).1
    refine gT ?_
    refine⟨_,rfl,_,rfl,x,row,m,n,t,rs,rfl,rt.mono (s2.trans sm),Q6 (mQ ht) hdl,vd (s2.trans sm) hR,hm,nd,hv,fun v' H4 s4 r4=>?_⟩
    have s7:=bR (zs':=zs++[v']) (s4 _ _ hDl)
    refine⟨s4 _ _ hDl,aD (by lia),⟨_,rfl⟩,by rw[Qj,lz]; rfl,aF (sm.trans s4) hD _,aj,?_⟩
    rw[jy,take_snoc (ren (dh rs)) ht,← jy]
    exact ((rz.mono s4).bu s7).snoc (r4.bu s7)
   ·rintro zs σ' H3 ⟨_,lz,sm,hDl,rz⟩
    rw[el,Qk] at rz
    refine⟨D,_,rfl,.inl ⟨SqL.of hDl,fun p4 h4=>?_⟩⟩
    generalize eH4:upd H3 p4 _=H4
    obtain⟨g4,e4⟩:=aJ eH4 h4
    refine⟨small (by show 2<=1000; decide),fun p5 h5=>?_⟩
    refine q (.ref p5) _ (s2.trans (sm.trans (g4.trans (au h5 _)))) ?_
    rw[ren]
    exact .all aj (au h5 _ _ _ e4) (by lia) (by lia) (rz.mono (g4.trans (au h5 _)))
  | @any a b us ts ha hb l2 l6 rl =>
   have hdl:tdL ts<=d:=by rw[Tm.dep] at hd; lia
   have el:=rl.length
   refine⟨_,rfl,a,_,_,_,rfl,rfl,SqT.of ha,aR (k:=0) rfl,rfl,_,rfl,lF (cg (by decide)) ?_⟩
   refine⟨_,rfl,a,_,_,_,rfl,rfl,SqT.of ha,aR (k:=0) rfl,small (by show 2<=1000; decide),fun p1 h1=>⟨p1,_,rfl,.inr (SqT.of aj),rfl,rfl,_,rfl,yc (by decide+kernel) ?_⟩⟩
   generalize eH1:upd H p1 _=H1
   obtain⟨g1,_⟩:=aJ eH1 h1
   refine⟨_,rfl,a,_,_,_,rfl,rfl,SqT.of (g1 _ _ ha),aR (k:=0) rfl,small (by show 2<=1000; decide),fun p2 h2=>⟨p2,_,rfl,.inr (SqT.of aj),rfl,rfl,_,rfl,M6 (by decide+kernel) ?_⟩⟩
   generalize eH2:upd H1 p2 _=H2
   obtain⟨g2,_⟩:=aJ eH2 h2
   have s2:aM H H2:=g1.trans g2
   refine⟨_,rfl,a,_,_,_,rfl,rfl,SqT.of (s2 _ _ ha),aR (k:=0) rfl,?_⟩
   refine⟨_,rfl,a,_,_,_,rfl,rfl,SqT.of (s2 _ _ ha),aR (k:=1) rfl,b,rfl,⟨_,SqT.of (s2 _ _ hb)⟩,fun D hD=>fG (K:=K) (a:=b) (xs:=us) (fun i zs σ' H3=>(∃ u,σ'=[u,some (.ref row)])/\zs.length=i/\aM H2 H3/\H3 D=some (.lst zs)/\c7 n H3 zs (qm (dh rs) (ts.take i)))
    ⟨⟨_,rfl⟩,rfl,au hD _,aj,by rw[Ry,qm]; exact .nil⟩ (fun i zs σ' H3 _ h=>⟨SqT.of (h.2.2.1 _ _ (s2 _ _ hb)),h.2.2.2.1⟩) ?_ ?_⟩
   ·rintro j zs x σ' H3 hx ⟨⟨u,rfl⟩,lz,sm,hDl,rz⟩
    obtain⟨t,ht,rt⟩:=rl.get hx
    have hj:=(List.getElem?_eq_some_iff.mp hx).1
    refine gT ?_
    refine⟨_,rfl,_,rfl,x,row,m,n,t,rs,rfl,rt.mono (s2.trans sm),Q6 (mQ ht) hdl,vd (s2.trans sm) hR,hm,nd,hv,fun v' H4 s4 r4=>?_⟩
    have s7:=bR (zs':=zs++[v']) (s4 _ _ hDl)
    refine⟨s4 _ _ hDl,aD (by lia),⟨_,rfl⟩,by rw[Qj,lz]; rfl,aF (sm.trans s4) hD _,aj,?_⟩
    rw[jy,take_snoc (ren (dh rs)) ht,← jy]
    exact ((rz.mono s4).bu s7).snoc (r4.bu s7)
   ·rintro zs σ' H3 ⟨_,lz,sm,hDl,rz⟩
    rw[el,Qk] at rz
    refine⟨D,_,rfl,.inl ⟨SqL.of hDl,fun p4 h4=>?_⟩⟩
    generalize eH4:upd H3 p4 _=H4
    obtain⟨g4,e4⟩:=aJ eH4 h4
    refine⟨small (by show 2<=1000; decide),fun p5 h5=>?_⟩
    refine q (.ref p5) _ (s2.trans (sm.trans (g4.trans (au h5 _)))) ?_
    rw[ren]
    exact .any aj (au h5 _ _ _ e4) (by lia) (by lia) (rz.mono (g4.trans (au h5 _)))
theorem nQ {p q:Nat->Bool}:∀ {l:List Nat},(∀ x∈l,p x=q x)->l.filter p=l.filter q
 | [],_=>rfl
 | x::r,h=>by
  rw[Sx,Sx,h x Qa,nQ fun y hy=>h y (Qg _ hy)]
theorem gk (f:Nat->Nat) (p:Nat->Bool):∀ l:List Nat,((l.map f).filter p).length=(l.filter fun i=>p (f i)).length
 | []=>rfl
 | x::r=>by
  rw[QM,Sx,Sx]
  by_cases h:p (f x)=true
  ·rw[if_pos h,if_pos h,Qo,Qo,gk f p r]
  ·rw[if_neg h,if_neg h,gk f p r]
theorem FJ:∀ {l l':List Int},l.Perm l'->l.sum=l'.sum:=fun h=>by
 induction h with
 | nil=>rfl
 | cons x _ ih=>rw[S9,S9,ih]
 | swap x y l=>rw[S9,S9,S9,S9]; lia
 | trans _ _ h1 h2=>exact h1.trans h2
mutual
theorem Bq {n:Nat} {H:Hp} {f:Nat->Nat} {g g':List Int} (hg:∀ i < n,g'.getD (f i) 0=g.getD i 0):∀ {v:V} {t:Tm},iY n H v t->hF g' (ren f t)=hF g t
 | _,_,.free _=>by rw[ren,hF,hF]
 | _,_,.never _=>by rw[ren,hF,hF]
 | _,_,.gives _ hi _ _=>by rw[ren,hF,hF,hg _ hi]
 | _,_,.sum (c:=c) _ _ hc _ _ _ _ _=>by
  rw[ren,hF,hF]
  have e:((mJ (c.map f)).map fun i=>g'.getD i 0).sum=(c.map fun i=>g.getD i 0).sum:=by
   rw[FJ ((cG (c.map f)).map fun i=>g'.getD i 0),RQ]
   congr 1
   exact SQ fun i hi=>hg i (hc i hi)
  rw[e]
 | _,_,.crowd (c:=c) (k:=k) _ _ hc _ _ _ _ _ _ _=>by
  rw[ren,hF,hF]
  have e:((mJ (c.map f)).filter fun i=>decide (k<=g'.getD i 0)).length=(c.filter fun i=>decide (k<=g.getD i 0)).length:=by
   rw[((cG (c.map f)).filter fun i=>decide (k<=g'.getD i 0)).length_eq,gk]
   rw[nQ fun i hi=>by rw[hg i (hc i hi)]]
  rw[e]
 | _,_,.all _ _ _ _ rl=>by rw[ren,hF,hF,wu hg rl]
 | _,_,.any _ _ _ _ rl=>by rw[ren,hF,hF,wV hg rl]
theorem wu {n:Nat} {H:Hp} {f:Nat->Nat} {g g':List Int} (hg:∀ i < n,g'.getD (f i) 0=g.getD i 0):∀ {vs:List V} {ts:List Tm},c7 n H vs ts->lR g' (qm f ts)=lR g ts
 | _,_,.nil=>by rw[qm,lR,lR]
 | _,_,.cons h r=>by rw[qm,lR,lR,Bq hg h,wu hg r]
theorem wV {n:Nat} {H:Hp} {f:Nat->Nat} {g g':List Int} (hg:∀ i < n,g'.getD (f i) 0=g.getD i 0):∀ {vs:List V} {ts:List Tm},c7 n H vs ts->lW g' (qm f ts)=lW g ts
 | _,_,.nil=>by rw[qm,lW,lW]
 | _,_,.cons h r=>by rw[qm,lW,lW,Bq hg h,wV hg r]
end
theorem Es {f f':Nat->Nat} {n:Nat} (hf:∀ i < n,f' (f i)=i) {c:List Nat} (hc:∀ i∈c,i < n) (hp:c.Pairwise (· < ·)):mJ ((mJ (c.map f)).map f')=c:=by
 have p1:(mJ ((mJ (c.map f)).map f')).Perm c:=by
  refine (cG _).trans (((cG (c.map f)).map f').trans ?_)
  rw[RQ]
  have:c.map (f' ∘ f)=c.map id:=SQ fun i hi=>hf i (hc i hi)
  rw[this,List.map_id]
 have h2:(mJ ((mJ (c.map f)).map f')).Pairwise (·<=·):=dR _
 have h3:c.Pairwise (·<=·):=hp.imp fun h=>by lia
 have e:=jQ (p1.map fun i:Nat=>(i:Int)) (by rw[RP]; exact h2.imp fun h=>by lia) (by rw[RP]; exact h3.imp fun h=>by lia)
 exact Xf (fun a b h=>by lia) |>.mp e
def shN (one k:Nat):Nat:=k+if one<=k then 1 else 0
def shR (one m:Nat):List Nat:=(P0 m).map (shN one)
theorem zx (one m:Nat):(shR one m).Nodup:=by
 unfold shR
 show ((P0 m).map (shN one)).Pairwise (·≠·)
 rw[RP]
 refine List.pairwise_lt_range.imp fun {a b} h=>?_
 unfold shN
 split <;> split <;> lia
theorem Ly {one m:Nat}:∀ x∈shR one m,x < m+1:=fun x hx=>by
 unfold shR at hx
 obtain⟨k,hk,rfl⟩:=List.mem_map.mp hx
 have:=List.mem_range.mp hk
 unfold shN
 split <;> lia
abbrev jX:Stmt:=top 34
theorem vm:aW ["_law_cell_here","_law_n","_law_one","_law_deep","_law_most"] ["_law_cell_here","_law_n","_law_one","_law_deep","_law_most"] (aH jX):=⟨rfl,rfl,rfl,by decide+kernel,rfl,by decide+kernel,by decide+kernel⟩
inductive BK (vs:List V) (H:Hp) (Q:VK):Prop where
 | mk (c:Int) (n one:Nat) (deep:Int) (mo:Nat) (z0:vs=[.int c,.int (n:Int),.int (one:Int),.int deep,.int (mo:Int)]) (z1:1<=n) (z2:n<=12) (z3:one < n) (z4:1<=deep) (z5:deep<=3) (z6:1<=mo) (z7:mo<=9) (z8:∀ (v:V) (t:Tm) (H':Hp),aM H H'->iY n H' v t->t.dep<=3->Q v H'):BK  vs H Q
def Gr:Sp:=fun vs H Q _=>BK  vs H Q
theorem uN (F:Fun K "_law_mine" "_law_mine" jX f fd) (B:Bt mg)
  (D_law_term:Df P w K mg base "_law_term" 4 ["_law_cell_here","_law_n","_law_deep","_law_most"] (pC 3)) (D_law_renamed:Df P w K mg base "_law_renamed" 3 ["_law_term_here","_law_row"] (uZ K 3)):fj P w K mg base CX0 5 f fd ["_law_cell_here","_law_n","_law_one","_law_deep","_law_most"] Gr:=by
 refine F.ok vm (fun vs H Q E h=>?_) (fun cdv A outer s H vs Q E hr h=>?_)
 ·obtain⟨c,n,one,deep,mo,rfl,_⟩:=h
  rfl
 ·obtain⟨c,n,one,deep,mo,rfl,n1,n12,hone,de1,de3,m1,m9,q⟩:=h
  refine⟨_,(aA (bZ (aV gO (pv 1) aB (bf _)) (aC (aK (bU (aa (bh (r:=gq K) aQ (bK (aa cH (aa cH (aa cH aq)))) (aO cV (pv 0) aB) (fun _ _=>rfl)) aq)))) aX)
 (aC (aK (aY D_law_renamed hr (aa (aY D_law_term hr (aa (pv 0) (aa (aO nj (pv 1) aB) (aa (pv 3) (aa (pv 4) aq))))) (aa (bA (L:=["_law_k"]) (F:=["_law_one"]) (cap:=[2]) rfl (bj rfl rfl (by kernel_rfl)) (cL rfl B.range_ (aa (aO nj (pv 1) aB) aq)) (fun _ _ _ _ _=>(aG (i:=0) (aP (by decide+kernel)) rfl (Qm rfl))) (fun _ _ _ _ _=>bC) (fun _ _ _ _ _=>(aO bT (pv 0) (bG (r:=Nb) Az rfl B.int_ BL (aa (f9 yj (pv 0) (pv 1) (bf _)) aq))))) aq)))))),?_⟩
  refine⟨_,rfl,rfl,_,rfl,?_⟩
  refine yS (fun c1=>?_) (fun c1=>?_)
  ·have en:n=1:=by
    have:=of_decide_eq_true c1
    cases n with
    | zero=>lia
    | succ n=>injection this with z; lia
   subst en
   refine⟨small (by show 3<=1000; decide),fun p7 h7=>?_⟩
   generalize eH7:upd H p7 _=H7
   obtain⟨g7,e7⟩:=aJ eH7 h7
   have fin:∀ p8 (x:Rx),H7 p8=none->(x = "free"∨x = "never")->Q (.ref p8) (upd H7 p8 (.tup [.str x])):=fun p8 x h8 hx=>by
    rcases hx with rfl | rfl
    ·exact q (.ref p8) .free _ (g7.trans (au h8 _)) (.free aj) (by decide)
    ·exact q (.ref p8) .never _ (g7.trans (au h8 _)) (.never aj) (by decide)
   refine⟨_,rfl,_,_,rfl,rfl,(by show (0:Int) < 3; decide),?_⟩
   have u1:0<=c % 3:=Rn _ (by lia)
   have u2:c % 3 < 3:=QT _ (by lia)
   rcases (show c % 3=0∨c % 3=1∨c % 3=2 by lia) with z | z | z
   ·exact⟨p7,_,_,_,rfl,rfl,SqL.of e7,by rw[z]; rfl,small (by show 1<=1000; decide),fun p8 h8=>fin p8 _ h8 (.inl rfl)⟩
   ·exact⟨p7,_,_,_,rfl,rfl,SqL.of e7,by rw[z]; rfl,small (by show 1<=1000; decide),fun p8 h8=>fin p8 _ h8 (.inr rfl)⟩
   ·exact⟨p7,_,_,_,rfl,rfl,SqL.of e7,by rw[z]; rfl,small (by show 1<=1000; decide),fun p8 h8=>fin p8 _ h8 (.inl rfl)⟩
  ·have en:n≠1:=fun z=>c1 (decide_eq_true (by rw[z]; rfl))
   obtain⟨m,rfl⟩:∃ m,n=m+1:=⟨n - 1,by lia⟩
   have em:((m+1:Nat):Int) - 1=(m:Int):=by lia
   have et:(((m+1:Nat):Int) - 1).toNat=m:=by lia
   refine⟨_,rfl,_,rfl,_,_,rfl,rfl,_,rfl,_,rfl,c,m,deep,(mo:Int),(by show[V.int c,V.int (((m+1:Nat):Int) - 1),V.int deep,V.int (mo:Int)]=_; rw[em]),by lia,by lia,de1,by lia,by lia,by lia,fun v t H1 s1 rt td=>?_⟩
   refine⟨_,rfl,_,_,rfl,rfl,_,rfl,by lia,by lia,fun D hD=>dw (lo:=0) (n:=(((m+1:Nat):Int) - 1).toNat) (fun i zs σ' H2=>(∃ u,σ'=[u,some (.int (one:Int))])/\zs=((P0 i).map (shN one)).map vN/\aM H1 H2/\H2 D=some (.lst zs))
    ⟨⟨_,rfl⟩,rfl,au hD _,aj⟩ (fun i zs σ' H2 _ h=>h.2.2.2) ?_ ?_⟩
   ·rintro i zs σ' H2 hi ⟨⟨u,rfl⟩,e1,sm,hDl⟩
    refine gT ?_
    refine⟨_,rfl,_,rfl,_,rfl,_,_,rfl,rfl,.inr ⟨_,rfl,_,_,rfl,rfl,hDl,?_,⟨_,rfl⟩,?_,aF sm hD _,aj⟩⟩
    ·rw[e1,Py,Py,Qs]
     exact aD (by lia)
    ·rw[e1,SM,PQ,PQ]
     congr 1
     show[V.int (0+(i:Int)+_)]=[V.int ((shN one i:Nat):Int)]
     congr 2
     unfold shN
     by_cases hc:one<=i
     ·rw[decide_eq_true (by lia),if_pos hc]
      simp
     ·rw[decide_eq_false (by lia),if_neg hc]
      simp
   ·rintro zs σ' H2 ⟨_,e1,sm,hDl⟩
    rw[et] at e1
    refine⟨v,D,m,m+1,t,shR one m,rfl,rt.mono sm,by lia,SqL.of (by rw[hDl,e1]; rfl),by unfold shR; rw[Py,Qs]; lia,zx one m,Ly,fun v' H3 s3 r3=>?_⟩
    exact q v' _ H3 (s1.trans (sm.trans s3)) r3 (by rw[vo]; lia)
theorem Ca {x:Int}:∀ (ns acc:List Int),x∈ns.foldl R8 acc ↔ x∈acc∨x∈ns
 | [],acc=>by simp
 | n::r,acc=>by
  rw[Rm,Ca r _]
  unfold R8
  split
  ·rename_i h
   obtain⟨y,hy,ey⟩:=List.any_eq_true.mp h
   have e:=eq_of_beq ey
   constructor
   ·rintro (h | h)
    ·exact .inl h
    ·exact .inr (Qg _ h)
   ·rintro (h | h)
    ·exact .inl h
    ·rcases List.mem_cons.mp h with rfl | h
     ·exact .inl (by rw[← e]; exact hy)
     ·exact .inr h
  ·constructor
   ·rintro (h | h)
    ·rcases List.mem_append.mp h with h | h
     ·exact .inl h
     ·exact .inr (by rw[List.mem_singleton.mp h]; exact Qa)
    ·exact .inr (Qg _ h)
   ·rintro (h | h)
    ·exact .inl (W2 _ h)
    ·rcases List.mem_cons.mp h with rfl | h
     ·exact .inl (Rv _ Qa)
     ·exact .inr h
def okS (ms:List Int):Prop:=ms≠[]/\ms.length<=9/\ms.Pairwise (· < ·)/\∀ x∈ms,1<=x/\x<=9
theorem Lg {ns ms:List Int} (p:ms.Perm (ddI ns)) (so:ms.Pairwise (·<=·)) (h0:ns≠[]) (h9:ns.length<=9) (hb:∀ x∈ns,1<=x/\x<=9):okS ms:=by
 rw[Av] at p
 have mem:∀ x,x∈ms ↔ x∈ns:=fun x=>by rw[p.mem_iff,Ca]; simp
 refine⟨fun z=>?_,?_,?_,fun x hx=>hb x ((mem x).mp hx)⟩
 ·cases ns with
  | nil=>exact h0 rfl
  | cons a r =>
   have:=(mem a).mpr Qa
   rw[z] at this
   cases this
 ·have:=Cu ns []
  rw[p.length_eq]
  simp at this
  lia
 ·have nd:ms.Nodup:=p.nodup_iff.mpr (v8 ns [] (by simp))
  exact (so.and nd).imp fun h=>by lia
theorem Mh {ns ms:List Int} (p:ms.Perm (ddI ns)) {x:Int} (h:x∈ms):x∈ns:=by
 rw[Av] at p
 have:=p.mem_iff.mp h
 rw[Ca] at this
 simpa using this
theorem CZ {ms:List Int} (h:okS ms) {p:Pl} (e:p.map (·.1)=ms) (hd:∀ x∈p,x.2.dep<=4):okP p:=by
 refine⟨fun z=>?_,?_,by rw[e]; exact h.2.2.1,fun x hx=>?_⟩
 ·subst z
  exact h.1 e.symm
 ·have:=congrArg Vz e
  rw[Py] at this
  have:=h.2.1
  lia
 ·have hm:x.1∈ms:=by rw[← e]; exact List.mem_map.mpr ⟨x,hx,rfl⟩
  exact⟨(h.2.2.2 _ hm).1,(h.2.2.2 _ hm).2,hd x hx⟩
abbrev iz:Stmt:=top 35
theorem bI:aW ["_law_cell_here","_law_n","_law_one","_law_deep","_law_most","_law_drawn","_law_steps","_law_other_one","_law_found","_law_k","_law_step"] ["_law_cell_here","_law_n","_law_one","_law_deep","_law_most"] (aH iz):=⟨rfl,rfl,rfl,by decide+kernel,rfl,by decide+kernel,by decide+kernel⟩
inductive rR (vs:List V) (H:Hp) (Q:VK):Prop where
 | mk (c:Int) (n one:Nat) (deep:Int) (mo:Nat) (z0:vs=[.int c,.int (n:Int),.int (one:Int),.int deep,.int (mo:Int)]) (z1:1<=n) (z2:n<=12) (z3:one < n) (z4:1<=deep) (z5:deep<=3) (z6:1<=mo) (z7:mo<=9) (z8:∀ (a:Addr) (p:Pl) (H':Hp),aM H H'->zf n H' a p->(∀ x∈p,x.1<=(mo:Int))->Q (.ref a) H'):rR  vs H Q
def wQ:Sp:=fun vs H Q _=>rR  vs H Q
theorem pR (F:Fun K "_law_pledge" "_law_pledge" iz f fd) (B:Bt mg)
  (D_law_draws:Df P w K mg base "_law_draws" 1 ["_law_cell_here","_law_parts"] (jc K)) (D_law_under:Df P w K mg base "_law_under" 1 ["_law_cell_here","_law_k"] qt) (D_law_crowd:Df P w K mg base "_law_crowd" 1 ["_law_number","_law_n"] vP)
  (D_law_mine:Df P w K mg base "_law_mine" 5 ["_law_cell_here","_law_n","_law_one","_law_deep","_law_most"] Gr):fj P w K mg base CX0 6 f fd ["_law_cell_here","_law_n","_law_one","_law_deep","_law_most"] wQ:=by
 refine F.ok bI (fun vs H Q E h=>?_) (fun cdv A outer s H vs Q E hr h=>?_)
 ·obtain⟨c,n,one,deep,mo,rfl,_⟩:=h
  rfl
 ·obtain⟨c,n,one,deep,mo,rfl,n1,n12,hone,de1,de3,m1,m9,q⟩:=h
  refine⟨_,(aA (aU (i:=5) bI.nd rfl (Wk rfl) (aY D_law_draws hr (aa (pv 0) (aa (bK (aa aB (aa aB (aa aB (aa aB (aa aB (aa aB aq))))))) aq))))
 (aA (aU (i:=6) bI.nd rfl (Qm rfl) (tV rfl rfl B.sorted_ rfl B.set_ (aa (bA (L:=["_law_k"]) (F:=["_law_most","_law_drawn"]) (cap:=[4,5]) rfl (bj rfl rfl (by kernel_rfl)) (cL rfl B.range_ (aa (aO bT aB (aO cV (bh (r:=gq K) aQ (pv 5) aB (fun _ _=>rfl)) aB)) aq)) (fun _ _ _ _ _=>(aG (i:=0) (aP (by decide+kernel)) rfl (Qm rfl))) (fun _ _ _ _ _=>bC) (fun _ _ _ _ _=>(aO bT aB (aO cV (bh (r:=gq K) aQ (pv 2) (aO bT aB (pv 0)) (fun _ _=>rfl)) (pv 1))))) aq)))
 (aA (bZ (aV gO (bh (r:=gq K) aQ (pv 5) aB (fun _ _=>rfl)) aB (bf _)) (aA (Bp (L:=["_law_step"]) (F:=[]) (cap:=[]) (j:=6) bI.nd rfl (Qm rfl) rfl (bj rfl rfl (by kernel_rfl)) (iU (aY D_law_crowd hr (aa (bh (r:=gq K) aQ (pv 5) aB (fun _ _=>rfl)) (aa (pv 4) aq)))) (fun _ _ _ _ _=>(aG (i:=0) (aP (by decide+kernel)) rfl (Qm rfl))) (fun _ _ _ _ _=>bC) (fun _ _ _ _ _=>(aO bT aB (pv 0))))
 (aC (bZ (aV (r:=Oq K) (Ma hr.nu) (pv 6) (bK aq) (bf _)) (aC (aU (i:=6) bI.nd rfl (Qm rfl) (bK (aa (pv 4) aq)))) aX))) aX)
 (aA (bZ (PW.pt (rY (aV gO (bh (r:=gq K) aQ (pv 5) aB (fun _ _=>rfl)) aB (bf _)) (nU (aV vH (pv 1) aB (bf _))))) (aC (aK (bG (r:=fC K) bB rfl B.tuple_ bQ (aa (bA (L:=["_law_step"]) (F:=["_law_n","_law_one"]) (cap:=[1,2]) rfl (bj rfl rfl (by kernel_rfl)) (dX (pv 6)) (fun _ _ _ _ _=>(aG (i:=0) (aP (by decide+kernel)) rfl (Qm rfl))) (fun _ _ _ _ _=>bC) (fun _ _ _ _ _=>(bU (aa (pv 0) (aa (bU (aa cH (aa (aO cV (aO bT (pv 2) aB) (pv 1)) (aa (pv 0) aq)))) aq))))) aq)))) aX)
 (aA (bZ (PW.pt (rY (aV gO (bh (r:=gq K) aQ (pv 5) aB (fun _ _=>rfl)) aB (bf _)) (nU (aV vH (pv 1) aB (bf _))))) (aA (aU (i:=7) bI.nd rfl (Wk rfl) (aO cV (aO bT (aO bT (pv 2) aB) (aO cV (bh (r:=gq K) aQ (pv 5) aB (fun _ _=>rfl)) (aO nj (pv 1) aB))) (pv 1)))
 (aC (aK (bG (r:=fC K) bB rfl B.tuple_ bQ (aa (bA (L:=["_law_step"]) (F:=["_law_other_one"]) (cap:=[7]) rfl (bj rfl rfl (by kernel_rfl)) (dX (pv 6)) (fun _ _ _ _ _=>(aG (i:=0) (aP (by decide+kernel)) rfl (Qm rfl))) (fun _ _ _ _ _=>bC) (fun _ _ _ _ _=>(bU (aa (pv 0) (aa (bU (aa cH (aa (pv 1) (aa (aL (Bl rfl) rfl B.max_ xn (aa aB (aa (aO nj (pv 0) aB) aq))) aq)))) aq))))) aq))))) aX)
 (aA (aU (i:=8) bI.nd rfl (Qm rfl) (bK aq))
 (aA (gK Rt rfl (zg rfl B.enumerate_ (aa (pv 6) aq)) (dU (K:=K) 2 rfl rfl (aZ (aG (i:=9) bI.nd rfl (Qm rfl)) (aZ (aG (i:=10) bI.nd rfl (Qm rfl)) d8))) (aC (gf (j8 QH Rq Rp cP (pv 8) (aa (bU (aa (pv 10) (aa (aY D_law_mine hr (aa (aY D_law_under hr (aa (pv 0) (aa (pv 9) aq))) (aa (pv 1) (aa (pv 2) (aa (pv 3) (aa (pv 4) aq)))))) aq))) aq)))))
 (aC (aK (bG (r:=fC K) bB rfl B.tuple_ bQ (aa (pv 8) aq))))))))))),?_⟩
  refine⟨_,rfl,small (by show 6<=1000; decide),fun p1 h1=>?_⟩
  generalize eH1:upd H p1 _=H1
  obtain⟨g1,e1⟩:=aJ eH1 h1
  refine⟨c,p1,[7,9,9,9,12,512],rfl,SqL.of e1,by decide,by decide,fun p2 h2=>?_⟩
  generalize eH2:upd H1 p2 _=H2
  obtain⟨g2,e2⟩:=aJ eH2 h2
  have hps:∀ q∈([7,9,9,9,12,512]:List Int),0 < q:=by decide
  obtain⟨d0,k0,b0⟩:=bL (c:=j7 c) (i:=0) hps rfl
  obtain⟨d1,k1,b1⟩:=bL (c:=j7 c) (i:=1) hps rfl
  obtain⟨d2,k2,b2⟩:=bL (c:=j7 c) (i:=2) hps rfl
  obtain⟨d3,k3,b3⟩:=bL (c:=j7 c) (i:=3) hps rfl
  obtain⟨d4,k4,b4⟩:=bL (c:=j7 c) (i:=4) hps rfl
  obtain⟨d5,k5,b5⟩:=bL (c:=j7 c) (i:=5) hps rfl
  have a0:=aR (d9 k0)
  have a4:=aR (d9 k4)
  have a5:=aR (d9 k5)
  have kk:∀ k:Nat,k < 3->∃ d,(uy (j7 c) [7,9,9,9,12,512])[1+k]? = some d:=fun k hk=>by
   match k,hk with
   | 0,_=>exact⟨_,k1⟩
   | 1,_=>exact⟨_,k2⟩
   | 2,_=>exact⟨_,k3⟩
  change _=some (HO.lst ((uy (j7 c) [7,9,9,9,12,512]).map V.int)) at e2
  generalize uy (j7 c) [7,9,9,9,12,512]=ds at *
  have gH:aM H H2:=g1.trans g2
  have u1:0<=d0 % 3:=Rn _ (by lia)
  have u2:d0 % 3 < 3:=QT _ (by lia)
  refine⟨_,rfl,p2,_,_,_,rfl,rfl,SqL.of e2,a0,_,_,rfl,rfl,(by show (0:Int) < 3; decide),_,_,rfl,rfl,_,rfl,by lia,by lia,fun D hD=>dw (lo:=0) (n:=(1+d0 % 3).toNat)
   (fun i zs σ' H3=>(∃ u,σ'=[u,some (.int (mo:Int)),some (.ref p2)])/\aM H2 H3/\H3 D=some (.lst zs)/\∃ ns:List Int,zs=ns.map V.int/\ns.length=i/\∀ x∈ns,1<=x/\x<=(mo:Int))
   ⟨⟨_,rfl⟩,au hD _,aj,[],rfl,rfl,by simp⟩ (fun i zs σ' H3 _ h=>h.2.2.1) ?_ ?_⟩
  ·rintro i zs σ' H3 hi ⟨⟨u,rfl⟩,s3,eD,ns,e3,ln,hb⟩
   obtain⟨dk,hk⟩:=kk i (by lia)
   have ak:atI (ds.map V.int) (1+(0+(i:Int)))=some (.int dk):=by
    rw[show (1:Int)+(0+(i:Int))=((1+i:Nat):Int) by lia]
    exact aR (d9 hk)
   have v1:0<=dk % (mo:Int):=Rn _ (by lia)
   have v2:dk % (mo:Int) < (mo:Int):=QT _ (by lia)
   refine gT ?_
   refine⟨_,rfl,_,rfl,_,_,rfl,rfl,p2,_,_,_,rfl,rfl,SqL.of (s3 _ _ e2),ak,_,rfl,_,_,rfl,rfl,(by show (0:Int) < (mo:Int); lia),_,_,rfl,rfl,eD,?_,⟨_,rfl⟩,aF s3 hD _,aj,ns++[1+dk % (mo:Int)],?_,?_,?_⟩
   ·rw[e3,Py]
    exact aD (by lia)
   ·rw[e3,PQ]
    rfl
   ·rw[Qj,ln]
    rfl
   ·intro x hx
    rcases List.mem_append.mp hx with h | h
    ·exact hb x h
    ·rw[List.mem_singleton.mp h]
     lia
  ·rintro zs σ' H3 ⟨_,s3,eD,ns,e3,ln,hb⟩
   have ln3:1<=ns.length/\ns.length<=3:=by lia
   have dl:(ddI ns).length<=ns.length:=by
    have:=Cu ns []
    rw[Av]
    simpa using this
   refine⟨D,ns,rfl,SqL.of (by rw[eD,e3]),by lia,by lia,fun ms pm so l hl=>?_⟩
   have okm:okS ms:=Lg pm so (fun z=>by rw[z] at ln3; simp at ln3) (by lia) fun x hx=>⟨(hb x hx).1,by have:=(hb x hx).2; lia⟩
   have okM:∀ x∈ms,x<=(mo:Int):=fun x hx=>(hb x (Mh pm hx)).2
   generalize eH4:upd H3 l _=H4
   obtain⟨g4,e4⟩:=aJ eH4 hl
   have s4:aM H2 H4:=s3.trans g4
   refine gN ?_
   dsimp only
   show Dy (FN _ _ _) _ _ _ _
   refine jt (fun σ H5=>∃ (l:Addr) (ms:List Int),σ=[some (.int c),some (.int (n:Int)),some (.int (one:Int)),some (.int deep),some (.int (mo:Int)),some (.ref p2),some (.ref l),none,none,none,none]/\aM H2 H5/\H5 l=some (.lst (ms.map V.int))/\okS ms/\∀ x∈ms,x<=(mo:Int)) ?rest (fun _ R=>?_)
   case rest =>
    clear e4 hl so pm okm okM eH4 g4 s4 H4 l ms
    rintro σ H5 ⟨l,ms,rfl,s5,e5,okm,okM⟩
    have l9:=okm.2.1
    have e2':=s5 _ _ e2
    have sH5:aM H H5:=gH.trans s5
    show Dy (FN _ _ _) _ _ _ _
    refine jt (fun σ H6=>σ=[some (.int c),some (.int (n:Int)),some (.int (one:Int)),some (.int deep),some (.int (mo:Int)),some (.ref p2),some (.ref l),none,none,none,none]/\H5=H6) ?rest2 (fun _ R=>?_)
    case rest2 =>
     rintro σ H6 ⟨rfl,rfl⟩
     show Dy (FN _ _ _) _ _ _ _
     refine jt (fun σ H6=>σ=[some (.int c),some (.int (n:Int)),some (.int (one:Int)),some (.int deep),some (.int (mo:Int)),some (.ref p2),some (.ref l),none,none,none,none]/\H5=H6) ?rest3 (fun _ R=>?_)
     case rest3 =>
      rintro σ H6 ⟨rfl,rfl⟩
      refine⟨small (QB _),fun r hr0=>?_⟩
      generalize eH6:upd H5 r _=H6
      obtain⟨g6,e6⟩:=aJ eH6 hr0
      refine⟨_,rfl,l,_,rfl,g6 _ _ e5,Ed (K:=K) (a:=l) (xs:=ms.map V.int) (fun i σ H7=>(∃ u v,σ=[some (.int c),some (.int (n:Int)),some (.int (one:Int)),some (.int deep),some (.int (mo:Int)),some (.ref p2),some (.ref l),none,some (.ref r),u,v])/\aM H5 H7 ∧
       ∃ (vs:List V) (p:Pl),H7 r=some (.lst vs)/\dD n H7 vs p/\p.map (·.1)=ms.take i/\∀ x∈p,x.2.dep<=4) ⟨⟨_,_,rfl⟩,g6,[],[],e6,.nil,rfl,by simp⟩ (fun i σ H7 _ h=>SqL.of (h.2.1 _ _ e5)) ?_ ?_⟩
      ·rintro i x pp σ H7 hx hpp ⟨⟨u,v,rfl⟩,s7,vs,p,er,rp,ep,hd⟩
       obtain⟨st,hst,rfl⟩:=int_at hx
       have hi:i < ms.length:=(List.getElem?_eq_some_iff.mp hst).1
       generalize eH8:upd H7 pp _=H8
       obtain⟨g8,e8⟩:=aJ eH8 hpp
       refine⟨pp,_,rfl,SqT.of e8,rfl,_,_,rfl,_,_,rfl,rfl,?_⟩
       refine⟨_,rfl,.inl ⟨rfl,_,SqL.of (g8 _ _ er)⟩,_,rfl,_,rfl,_,rfl,c,i,rfl,by lia,_,rfl,_,rfl,_,rfl,_,rfl,Jo c i,n,one,deep,mo,rfl,n1,n12,hone,de1,de3,m1,m9,fun v' t H9 s9 rt td=>?_⟩
       refine⟨small (by show 2<=1000; decide),fun pa ha=>?_⟩
       generalize eHa:upd H9 pa _=Ha
       obtain⟨ga,ea⟩:=aJ eHa ha
       have s8a:aM H7 Ha:=g8.trans (s9.trans ga)
       have lv:=rp.length
       have lp:p.length<=ms.length:=by
        have:=congrArg Vz ep
        rw[Py,Ql] at this
        lia
       have tk:=bR (zs':=vs++[.ref pa]) (s8a _ _ er)
       refine⟨r,_,_,rfl,rfl,s8a _ _ er,aD (by lia),⟨_,_,rfl⟩,aF (s7.trans s8a) hr0 _,vs++[.ref pa],p++[(st,t)],aj,?_,?_,?_⟩
       ·exact dD.snoc (tk _ _ ea) ((rt.mono ga).bu tk) ((rp.bu fun a xs q=>s8a a _ q).bu tk)
       ·rw[PQ,ep,QF,hst]
        rfl
       ·intro x hx
        rcases List.mem_append.mp hx with h | h
        ·exact hd x h
        ·rw[List.mem_singleton.mp h]
         show t.dep<=4
         lia
      ·rintro σ H7 ⟨⟨u,v,rfl⟩,s7,vs,p,er,rp,ep,hd⟩
       rw[Py,Qk] at ep
       refine⟨_,rfl,r,_,rfl,.inl ⟨SqL.of er,fun pa ha=>?_⟩⟩
       have sn:=au ha (.tup vs)
       exact q pa p _ (sH5.trans (s7.trans sn)) ⟨CZ okm ep hd,vs,aj,rp.bu fun a xs q=>sn a _ q⟩ fun x hx=>okM _ (ep▸VN hx)
     ·refine pL (decide (V.int d0=V.int 5)) (decide (1 < (n:Int))) (fun H6=>H5=H6) (fun Q' hQ=>?_) (fun H6 e Q' hQ=>?_) (fun H6 e c1 c2=>?_) (fun H6 e _=>R _ _ ⟨rfl,e⟩)
      ·exact⟨_,rfl,p2,_,_,_,rfl,rfl,SqL.of e2',a0,rfl,_,rfl,hQ _ rfl⟩
      ·subst e
       exact⟨_,rfl,_,_,rfl,rfl,_,rfl,hQ⟩
      ·subst e
       have c2:1 < (n:Int):=of_decide_eq_true c2
       have w1:0<=((one:Int)+1+d4 % ((n:Int) - 1)) % (n:Int):=Rn _ (by lia)
       have w2:((one:Int)+1+d4 % ((n:Int) - 1)) % (n:Int) < (n:Int):=QT _ (by lia)
       obtain⟨j,hj⟩:=Ua w1
       refine⟨_,rfl,_,_,rfl,rfl,_,rfl,p2,_,_,_,rfl,rfl,SqL.of e2',a4,_,rfl,_,_,rfl,rfl,_,_,rfl,rfl,(by show (0:Int) < (n:Int) - 1; lia),_,_,rfl,rfl,_,rfl,_,_,rfl,rfl,(by show (0:Int) < (n:Int); lia),?_⟩
       refine gN ?_
       have es:(fun i j:Int=>V.int (i % j)) ((one:Int)+1+d4 % ((n:Int) - 1)) (n:Int)=V.int (j:Int):=by
        show V.int (((one:Int)+1+d4 % ((n:Int) - 1)) % (n:Int))=_
        rw[hj]
       refine⟨_,rfl,l,rfl,⟨_,SqL.of e5⟩,fun D hD=>cJ (K:=K) (a:=l) (xs:=ms.map V.int) (fun i zs σ' H7=>(∃ u,σ'=[u,some (.int (j:Int))])/\aM H5 H7/\H7 D=some (.lst zs) ∧
        dD n H7 zs ((ms.take i).map fun st=>(st,Tm.gives j (if st - 1 > 1 then st - 1 else 1)))) ⟨⟨none,?_⟩,au hD _,aj,.nil⟩ (fun i zs σ' H7 _ h=>⟨SqL.of (h.2.1 _ _ e5),h.2.2.1⟩) ?_ ?_⟩
       ·rw[← es]
        rfl
       ·rintro i zs x σ' H7 hx ⟨⟨u,rfl⟩,s7,er,rp⟩
        obtain⟨st,hst,rfl⟩:=int_at hx
        have hb:=okm.2.2.2 st (Qy hst)
        have lv:=rp.length
        rw[Py,Ql] at lv
        refine gT ?_
        refine⟨_,rfl,_,rfl,_,rfl,_,_,rfl,rfl,_,_,rfl,small (by show 3<=1000; decide),fun pa ha=>?_⟩
        generalize eHa:upd H7 pa _=Ha
        obtain⟨ga,ea⟩:=aJ eHa ha
        refine⟨small (by show 2<=1000; decide),fun pb hb'=>?_⟩
        generalize eHb:upd Ha pb _=Hb
        obtain⟨gb,eb⟩:=aJ eHb hb'
        have s7b:aM H7 Hb:=ga.trans gb
        have tk:=bR (zs':=zs++[.ref pb]) (s7b _ _ er)
        refine⟨s7b _ _ er,aD (by lia),⟨_,rfl⟩,aF (s7.trans s7b) hD _,aj,?_⟩
        rw[take_snoc (fun st=>(st,Tm.gives j (if st - 1 > 1 then st - 1 else 1))) hst]
        exact dD.snoc (tk _ _ eb) (.gives (tk _ _ (gb _ _ ea)) (by lia) (by split <;> lia) (by split <;> lia)) ((rp.bu fun a xs q=>s7b a _ q).bu tk)
       ·rintro zs σ' H7 ⟨_,s7,er,rp⟩
        rw[Py,Qk] at rp
        refine⟨D,_,rfl,.inl ⟨SqL.of er,fun pa ha=>?_⟩⟩
        have sn:=au ha (.tup zs)
        refine q pa _ _ (sH5.trans (s7.trans sn)) ⟨CZ okm ?_ ?_,zs,aj,rp.bu fun a xs q=>sn a _ q⟩ fun x hx=>by obtain⟨st,hs,rfl⟩:=List.mem_map.mp hx; exact okM st hs
        ·rw[RQ]
         exact List.map_id' ms
        ·intro x hx
         obtain⟨st,_,rfl⟩:=List.mem_map.mp hx
         show (1:Nat)<=4
         decide
    ·refine pL (decide (V.int d0=V.int 6)) (decide (1 < (n:Int))) (fun H6=>H5=H6) (fun Q' hQ=>?_) (fun H6 e Q' hQ=>?_) (fun H6 e c1 c2=>?_) (fun H6 e _=>R _ _ ⟨rfl,e⟩)
     ·exact⟨_,rfl,p2,_,_,_,rfl,rfl,SqL.of e2',a0,rfl,_,rfl,hQ _ rfl⟩
     ·subst e
      exact⟨_,rfl,_,_,rfl,rfl,_,rfl,hQ⟩
     ·subst e
      have w1:0<=((one:Int)+1) % (n:Int):=Rn _ (by lia)
      have w2:((one:Int)+1) % (n:Int) < (n:Int):=QT _ (by lia)
      obtain⟨j,hj⟩:=Ua w1
      refine⟨_,rfl,l,rfl,⟨_,SqL.of e5⟩,fun D hD=>cJ (K:=K) (a:=l) (xs:=ms.map V.int) (fun i zs σ' H7=>(∃ u,σ'=[u,some (.int (n:Int)),some (.int (one:Int))])/\aM H5 H7/\H7 D=some (.lst zs) ∧
       dD n H7 zs ((ms.take i).map fun st=>(st,Tm.gives j st))) ⟨⟨_,rfl⟩,au hD _,aj,.nil⟩ (fun i zs σ' H7 _ h=>⟨SqL.of (h.2.1 _ _ e5),h.2.2.1⟩) ?_ ?_⟩
      ·rintro i zs x σ' H7 hx ⟨⟨u,rfl⟩,s7,er,rp⟩
       obtain⟨st,hst,rfl⟩:=int_at hx
       have hb:=okm.2.2.2 st (Qy hst)
       have lv:=rp.length
       rw[Py,Ql] at lv
       refine gT ?_
       refine⟨_,rfl,_,rfl,_,_,rfl,rfl,_,rfl,_,_,rfl,rfl,(by show (0:Int) < (n:Int); lia),_,rfl,small (by show 3<=1000; decide),fun pa ha=>?_⟩
       generalize eHa:upd H7 pa _=Ha
       obtain⟨ga,ea⟩:=aJ eHa ha
       have ea:Ha pa=some (.tup [.str "gives",vN j,.int st]):=by
        rw[ea]
        show some (HO.tup [V.str "gives",V.int (((one:Int)+1) % (n:Int)),V.int st])=some (HO.tup [V.str "gives",V.int (j:Int),V.int st])
        rw[hj]
       refine⟨small (by show 2<=1000; decide),fun pb hb'=>?_⟩
       generalize eHb:upd Ha pb _=Hb
       obtain⟨gb,eb⟩:=aJ eHb hb'
       have s7b:aM H7 Hb:=ga.trans gb
       have tk:=bR (zs':=zs++[.ref pb]) (s7b _ _ er)
       refine⟨s7b _ _ er,aD (by lia),⟨_,rfl⟩,aF (s7.trans s7b) hD _,aj,?_⟩
       rw[take_snoc (fun st=>(st,Tm.gives j st)) hst]
       exact dD.snoc (tk _ _ eb) (.gives (tk _ _ (gb _ _ ea)) (by lia) (by lia) (by lia)) ((rp.bu fun a xs q=>s7b a _ q).bu tk)
      ·rintro zs σ' H7 ⟨_,s7,er,rp⟩
       rw[Py,Qk] at rp
       refine⟨D,_,rfl,.inl ⟨SqL.of er,fun pa ha=>?_⟩⟩
       have sn:=au ha (.tup zs)
       refine q pa _ _ (sH5.trans (s7.trans sn)) ⟨CZ okm ?_ ?_,zs,aj,rp.bu fun a xs q=>sn a _ q⟩ fun x hx=>by obtain⟨st,hs,rfl⟩:=List.mem_map.mp hx; exact okM st hs
       ·rw[RQ]
        exact List.map_id' ms
       ·intro x hx
        obtain⟨st,_,rfl⟩:=List.mem_map.mp hx
        show (1:Nat)<=4
        decide
   ·refine⟨_,rfl,p2,_,_,_,rfl,rfl,SqL.of (s4 _ _ e2),a0,rfl,_,rfl,?_⟩
    refine yS (fun _=>?_) (fun _=>R _ _ ⟨l,ms,rfl,s4,e4,okm,okM⟩)
    refine⟨_,rfl,p2,_,_,_,rfl,rfl,SqL.of (s4 _ _ e2),a5,_,rfl,d5,mo,rfl,by lia,fun cs r3 H5 hc hp hl5 s5 f5 e5=>?_⟩
    refine⟨r3,rfl,⟨_,SqT.of e5⟩,fun D5 hD5=>fG (K:=K) (a:=r3) (xs:=cs.map vN) (fun i zs σ' H6=>(∃ u,σ'=[u])/\zs=((cs.take i).map fun j:Nat=>(1:Int)+(j:Int)).map V.int/\aM H5 H6/\H6 D5=some (.lst zs))
     ⟨⟨_,rfl⟩,rfl,au hD5 _,aj⟩ (fun i zs σ' H6 _ h=>⟨SqT.of (h.2.2.1 _ _ e5),h.2.2.2⟩) ?_ ?_⟩
    ·rintro i zs x σ' H6 hx ⟨⟨u,rfl⟩,e6,s6,eD6⟩
     obtain⟨j,hj,rfl⟩:=sJ hx
     refine gT ?_
     refine⟨_,rfl,_,_,rfl,rfl,eD6,?_,⟨_,rfl⟩,?_,aF s6 hD5 _,aj⟩
     ·rw[e6,Py,Py,Ql]
      exact aD (by lia)
     ·rw[e6,take_snoc (fun j:Nat=>(1:Int)+(j:Int)) hj,PQ]
      rfl
    ·rintro zs σ' H6 ⟨_,e6,s6,eD6⟩
     rw[Py,Qk] at e6
     rw[e6] at eD6
     have s46:aM H2 H6:=s4.trans (s5.trans s6)
     refine⟨_,rfl,small (by show 0<=1000; decide),fun p7 h7=>?_⟩
     have g7:aM H6 (upd H6 p7 (.lst [])):=au h7 _
     refine⟨D5,p7,_,rfl,rfl,SqL.of (g7 _ _ eD6),SqL.of aj,_,rfl,?_⟩
     refine yS (fun ce=>?_) (fun ce=>?_)
     ·refine⟨_,rfl,small (by show 1<=1000; decide),fun p8 h8=>?_⟩
      refine R _ _ ⟨p8,[(mo:Int)],rfl,s46.trans (g7.trans (au h8 _)),aj,⟨by simp,by show 1<=9; decide,by simp,?_⟩,fun x hx=>by rw[List.mem_singleton.mp hx]; exact RC _⟩
      intro x hx
      rw[List.mem_singleton.mp hx]
      lia
     ·refine R _ _ ⟨D5,cs.map fun j:Nat=>(1:Int)+(j:Int),rfl,s46.trans g7,g7 _ _ eD6,⟨?_,?_,?_,?_⟩,fun x hx=>by obtain⟨j,hj,rfl⟩:=List.mem_map.mp hx; have:=hc j hj; lia⟩
      ·intro z
       apply ce
       rw[z]
       rfl
      ·rw[Py]
       lia
      ·rw[RP]
       exact hp.imp fun h=>by lia
      ·intro x hx
       obtain⟨j,hj,rfl⟩:=List.mem_map.mp hx
       have:=hc j hj
       lia
abbrev kO:Stmt:=top 36
theorem fK:aW ["_law_script","_law_start","_law_n","_law_most","_law_book_here","_law_one","_law_cell_here","_law_many"] ["_law_script","_law_start","_law_n","_law_most"] (aH kO):=⟨rfl,rfl,rfl,by decide+kernel,rfl,by decide+kernel,by decide+kernel⟩
def okM (mo:Nat) (bk:List (List Pl)):Prop:=∀ ps∈bk,∀ p∈ps,∀ x∈p,x.1<=(mo:Int)
inductive Bv (K:Qu) (vs:List V) (H:Hp) (Q:VK):Prop where
 | mk (a:Addr) (ss:List Int) (st n mo:Nat) (z0:vs=[.ref a,.int (st:Int),.int (n:Int),.int (mo:Int)]) (z1:SqL K H a (ss.map V.int)) (z2:st<=100) (z3:1<=n) (z4:n<=12) (z5:1<=mo) (z6:mo<=9) (z7:∀ (b:Addr) (bk:List (List Pl)) (H':Hp),aM H H'->ou n H' b bk->bk.length=n->okM mo bk->Q (.ref b) H'):Bv K vs H Q
def G7 (K:Qu):Sp:=fun vs H Q _=>Bv K vs H Q
theorem uV (F:Fun K "_law_book" "_law_book" kO f fd) (B:Bt mg)
  (D_law_cell:Df P w K mg base "_law_cell" 1 ["_law_script","_law_k"] (xT K)) (D_law_draws:Df P w K mg base "_law_draws" 1 ["_law_cell_here","_law_parts"] (jc K)) (D_law_under:Df P w K mg base "_law_under" 1 ["_law_cell_here","_law_k"] qt)
  (D_law_pledge:Df P w K mg base "_law_pledge" 6 ["_law_cell_here","_law_n","_law_one","_law_deep","_law_most"] wQ):fj P w K mg base CX0 7 f fd ["_law_script","_law_start","_law_n","_law_most"] (G7 K):=by
 refine F.ok fK (fun vs H Q E h=>?_) (fun cdv A outer s H vs Q E hr h=>?_)
 ·obtain⟨a,ss,st,n,mo,rfl,_⟩:=h
  rfl
 ·obtain⟨a,ss,st,n,mo,rfl,hS,hst,n1,n12,m1,m9,q⟩:=h
  refine⟨_,(aA (aU (i:=4) fK.nd rfl (Qm rfl) (bK aq))
 (aA (gK Rt rfl (cL rfl B.range_ (aa (pv 2) aq)) (aG (i:=5) fK.nd rfl (Wk rfl)) (aA (aU (i:=6) fK.nd rfl (Wk rfl) (aO bT (aY D_law_cell hr (aa (pv 0) (aa (aO bT (pv 1) (pv 5)) aq))) (aO gM aB (pv 5))))
 (aA (aU (i:=7) fK.nd rfl (Qm rfl) (bh (r:=gq K) aQ (bK (cM aB (cM aB (cM aB (cM aB (cM aB (cM aB (cM aB aq)))))))) (bh (r:=gq K) aQ (aY D_law_draws hr (aa (aO bT (pv 6) aB) (aa (bK (aa aB aq)) aq))) aB (fun _ _=>rfl)) (fun _ _=>rfl)))
 (aC (gf (j8 QH Rq Rp cP (pv 4) (aa (bA (L:=["_law_k"]) (F:=["_law_n","_law_one","_law_most","_law_cell_here"]) (cap:=[2,5,3,6]) rfl (bj rfl rfl (by kernel_rfl)) (cL rfl B.range_ (aa (pv 7) aq)) (fun _ _ _ _ _=>(aG (i:=0) (aP (by decide+kernel)) rfl (Qm rfl))) (fun _ _ _ _ _=>bC) (fun _ _ _ _ _=>(aY D_law_pledge hr (aa (aY D_law_under hr (aa (pv 4) (aa (aO gM aB (pv 0)) aq))) (aa (pv 1) (aa (pv 2) (aa aB (aa (pv 3) aq)))))))) aq)))))))
 (aC (aK (pv 4))))),?_⟩
  refine⟨small (QB _),fun r hr0=>?_⟩
  generalize eH1:upd H r _=H1
  obtain⟨g1,e1⟩:=aJ eH1 hr0
  have en:((n:Int)).toNat=n:=QC n
  refine⟨_,rfl,_,rfl,by lia,by lia,iI (lo:=0) (n:=((n:Int)).toNat) (fun i σ H2=>(∃ u v x,σ=[some (.ref a),some (.int (st:Int)),some (.int (n:Int)),some (.int (mo:Int)),some (.ref r),u,v,x])/\aM H H2/\∃ (us:List V) (bk:List (List Pl)),H2 r=some (.lst us)/\cI n H2 us bk/\us.length=i/\(∀ u∈us,u≠.ref r)/\okM mo bk)
   ⟨⟨_,_,_,rfl⟩,g1,[],[],e1,.nil,rfl,by simp,fun _ z=>(by cases z)⟩ ?_ ?_⟩
  ·rintro i σ H2 hi ⟨⟨u,v,x,rfl⟩,sm,us,bk,er,rb,lu,hur,few⟩
   have hi12:i < n:=by lia
   have e1':(st:Int)+(0+(i:Int))=((st+i:Nat):Int):=by lia
   refine⟨_,rfl,_,rfl,_,rfl,_,_,rfl,rfl,a,ss,st+i,?_,vd sm hS,_,rfl,_,_,rfl,rfl,.inl ⟨by decide,by decide⟩,_,_,rfl,rfl,?_⟩
   ·show[V.ref a,V.int ((st:Int)+(0+(i:Int)))]=_
    rw[e1']
   refine gN ?_
   dsimp only
   generalize (ss.getD (st+i) 0+31 * (0+(i:Int)))=c
   refine⟨small (by show 7<=1000; decide),fun p3 h3=>?_⟩
   generalize eH3:upd H2 p3 _=H3
   obtain⟨g3,e3⟩:=aJ eH3 h3
   refine⟨_,rfl,_,_,rfl,rfl,small (by show 1<=1000; decide),fun p4 h4=>?_⟩
   generalize eH4:upd H3 p4 _=H4
   obtain⟨g4,e4⟩:=aJ eH4 h4
   refine⟨c+5,p4,[7],rfl,SqL.of e4,by decide,by decide,fun p5 h5=>?_⟩
   generalize eH5:upd H4 p5 _=H5
   obtain⟨g5,e5⟩:=aJ eH5 h5
   obtain⟨d0,k0,b0⟩:=bL (c:=j7 (c+5)) (i:=0) (ps:=[7]) (by decide) rfl
   have a0:=aR (d9 k0)
   obtain⟨many,hmany,hm2⟩:∃ many:Nat,atI ([1,1,2,1,0,1,2].map V.int) d0=some (.int (many:Int))/\many<=2:=by
    rcases (show d0=0∨d0=1∨d0=2∨d0=3∨d0=4∨d0=5∨d0=6 by lia) with z | z | z | z | z | z | z
    ·exact⟨1,by rw[z]; rfl,by decide⟩
    ·exact⟨1,by rw[z]; rfl,by decide⟩
    ·exact⟨2,by rw[z]; rfl,by decide⟩
    ·exact⟨1,by rw[z]; rfl,by decide⟩
    ·exact⟨0,by rw[z]; rfl,by decide⟩
    ·exact⟨1,by rw[z]; rfl,by decide⟩
    ·exact⟨2,by rw[z]; rfl,by decide⟩
   refine⟨p5,_,_,_,rfl,rfl,SqL.of e5,a0,p3,_,_,_,rfl,rfl,SqL.of (g5 _ _ (g4 _ _ e3)),hmany,?_⟩
   have s5:aM H2 H5:=g3.trans (g4.trans g5)
   have emn:((many:Int)).toNat=many:=QC many
   refine⟨_,rfl,.inl ⟨rfl,_,SqL.of (s5 _ _ er)⟩,?_⟩
   refine⟨_,rfl,_,rfl,by lia,by lia,fun D hD=>dw (lo:=0) (n:=((many:Int)).toNat) (fun j zs σ' H6=>(∃ u,σ'=[u,some (.int (n:Int)),some (.int (0+(i:Int))),some (.int (mo:Int)),some (.int c)])/\aM H5 H6/\H6 D=some (.lst zs)/\∃ (as:List Addr) (ps:List Pl),zs=as.map V.ref/\as.length=j/\dI n H6 as ps/\(∀ p∈ps,∀ x∈p,x.1<=(mo:Int)))
    ⟨⟨_,rfl⟩,au hD _,aj,[],[],rfl,rfl,.nil,fun _ z=>(by cases z)⟩ (fun j zs σ' H6 _ h=>h.2.2.1) ?_ ?_⟩
   ·rintro j zs σ' H6 hj ⟨⟨u,rfl⟩,s6,eD,as,ps,ez,la,rp,pm⟩
    have e7:(7:Int) * (0+(j:Int))=((7 * j:Nat):Int):=by lia
    refine gT ?_
    refine⟨_,rfl,_,rfl,_,_,rfl,rfl,.inl ⟨by decide,by decide⟩,c,7 * j,?_,by lia,_,rfl,_,rfl,_,rfl,Jo c (7 * j),n,i,3,mo,?_,n1,n12,hi12,by decide,by decide,m1,m9,fun pa p H7 s7 rpl rpm=>?_⟩
    ·show[V.int c,V.int (7 * (0+(j:Int)))]=_
     rw[e7]
    ·show[V.int (Jo c (7 * j)),V.int (n:Int),V.int (0+(i:Int)),V.int 3,V.int (mo:Int)]=_
     rw[Tu]
    ·have tk:=bR (zs':=zs++[.ref pa]) (s7 _ _ eD)
     refine⟨s7 _ _ eD,?_,⟨_,rfl⟩,aF (s6.trans s7) hD _,aj,as++[pa],ps++[p],?_,?_,?_,fun p' hp=>?_⟩
     ·rw[ez,Py]
      exact aD (by lia)
     ·rw[ez,PQ]
      rfl
     ·rw[Qj,la]
      rfl
     ·exact dI.snoc (rpl.bu tk) ((rp.bu fun a xs q=>s7 a _ q).bu tk)
     ·rcases List.mem_append.mp hp with h | h
      ·exact pm p' h
      ·rw[List.mem_singleton.mp h]
       exact rpm
   ·rintro zs σ' H6 ⟨_,s6,eD,as,ps,ez,la,rp,pm⟩
    rw[emn] at la
    rw[ez] at eD
    have s26:aM H2 H6:=s5.trans s6
    have er6:=s26 _ _ er
    have hDr:D≠r:=fun z=>by
     rw[z] at hD
     have:=s5 _ _ er
     rw[this] at hD
     cases hD
    refine⟨r,_,_,rfl,rfl,er6,aD (by lia),⟨_,_,_,rfl⟩,aF (sm.trans s26) hr0 _,us++[.ref D],bk++[ps],aj,?_,?_,?_,?_⟩
    ·have keepL:∀ {vs:List V} {bs:List (List Pl)},(∀ u∈vs,u≠.ref r)->cI n H6 vs bs->cI n (upd H6 r (.lst (us++[.ref D]))) vs bs:=by
      intro vs bs hne hb
      induction hb with
      | nil=>exact .nil
      | cons h l p _ ih =>
       refine .cons ?_ l (p.bu (bR er6)) (ih fun u hu=>hne u (Qg _ hu))
       rw[bx (fun z=>hne _ Qa (by rw[z]))]
       exact h
     have b6:=cI.snoc eD (by lia) rp (rb.mono s26)
     refine keepL (fun u hu=>?_) b6
     rcases List.mem_append.mp hu with h | h
     ·exact hur u h
     ·rw[List.mem_singleton.mp h]
      exact fun z=>hDr (by cases z; rfl)
    ·rw[Qj,lu]
     rfl
    ·intro u hu
     rcases List.mem_append.mp hu with h | h
     ·exact hur u h
     ·rw[List.mem_singleton.mp h]
      exact fun z=>hDr (by cases z; rfl)
    ·intro qs hq
     rcases List.mem_append.mp hq with h | h
     ·exact few qs h
     ·rw[List.mem_singleton.mp h]
      exact pm
  ·rintro σ H2 ⟨⟨u,v,x,rfl⟩,sm,us,bk,er,rb,lu,hur,few⟩
   rw[en] at lu
   have lb:=rb.length
   exact⟨_,rfl,q r bk H2 sm ⟨us,er,rb,by lia⟩ (by lia) few⟩
theorem M8 {K:Qu} {m z:Int} {n i:Nat} {σ:St} {H:Hp} {Q:V->Hp->Prop} (hz:z=(n:Int)) (n1:1<=n) (n2:n<=1000) (hσ:σ[i]? = some (some (.int z))) (hQ:∀ r H',aM H H'->H' r=some (.tup ((Qh n m).map V.int))->Q (.ref r) H') :
  tOp (Jv K) (Og (Ib (tC (.int m)) LK)) (Nv i) σ H Q:=by
 refine⟨small (by show 1<=1000; decide),fun pa ha=>?_⟩
 generalize eHa:upd H pa _=Ha
 obtain⟨ga,ea⟩:=aJ eHa ha
 have hN:z.toNat=n:=by lia
 refine⟨_,hσ,pa,_,_,rfl,rfl,SqT.of ea,by simp,by lia,by lia,?_,fun h1=>?_,fun _ pb hb=>?_⟩
 ·show 1 * z.toNat<=sizeLine
  exact small (by lia)
 ·refine hQ pa Ha ga ?_
  rw[ea,show n=1 by lia]
  rfl
 ·refine hQ pb _ (ga.trans (au hb _)) ?_
  rw[aj,hN,qL]
def K5 (n:Nat) (H:Hp) (b f:Addr) (bk:List (List Pl)) (fl:List Int):Prop:=1<=n/\n<=12/\ou n H b bk/\bk.length=n/\H f=some (.tup (fl.map V.int))/\fl.length=n/\∀ x∈fl,0<=x/\x<=9
theorem Ig {c:Int} {n:Nat} {m:Int} (hm:0<=m):∀ x∈Kv c n m,0<=x/\x<=m:=fun x hx=>by
 obtain⟨i,hi,e⟩:=RX hx
 rw[jn] at hi
 obtain⟨v,hv,b1,b2⟩:=Ex (c:=c) hm hi
 rw[PJ (by rw[jn]; exact hi),e] at hv
 cases hv
 exact⟨b1,b2⟩
abbrev jr:Stmt:=top 38
theorem dm:aW ["_law_script","_law_drawn","_law_n","_law_most","_law_floor"] ["_law_script"] (aH jr):=⟨rfl,rfl,rfl,by decide+kernel,rfl,by decide+kernel,by decide+kernel⟩
inductive wz (K:Qu) (vs:List V) (H:Hp) (Q:VK):Prop where
 | mk (a:Addr) (ss:List Int) (z0:vs=[.ref a]) (z1:SqL K H a (ss.map V.int)) (z2:∀ (r:Addr) (n mo:Nat) (b f:Addr) (bk:List (List Pl)) (fl:List Int) (H':Hp),aM H H'->H' r=some (.tup [.int (n:Int),.int (mo:Int),.ref b,.ref f])->1<=mo->mo<=9->((mo+1) ^ n<=256/\n<=6)->(∀ x∈fl,x<=(mo:Int))->K5 n H' b f bk fl->okM mo bk->Q (.ref r) H'):wz K vs H Q
def Al (K:Qu):Sp:=fun vs H Q _=>wz K vs H Q
theorem rM (F:Fun K "_law_scene" "_law_scene" jr f fd) (B:Bt mg)
  (D_law_cell:Df P w K mg base "_law_cell" 1 ["_law_script","_law_k"] (xT K)) (D_law_draws:Df P w K mg base "_law_draws" 1 ["_law_cell_here","_law_parts"] (jc K)) (D_law_giving:Df P w K mg base "_law_giving" 2 ["_law_cell_here","_law_n","_law_most"] xf)
  (D_law_book:Df P w K mg base "_law_book" 7 ["_law_script","_law_start","_law_n","_law_most"] (G7 K)):fj P w K mg base CX0 8 f fd ["_law_script"] (Al K):=by
 refine F.ok dm (fun vs H Q E h=>?_) (fun cdv A outer s H vs Q E hr h=>?_)
 ·obtain⟨a,ss,rfl,_⟩:=h
  rfl
 ·obtain⟨a,ss,rfl,hS,q⟩:=h
  refine' ⟨_,?hp,?hz⟩
  case hp =>
   refine' aA ?s0 ?r0
   case s0=>exact (aU (i:=1) dm.nd rfl (Qm rfl) (aY D_law_draws hr (aa (aY D_law_cell hr (aa (pv 0) (aa aB aq))) (aa (bK (aa aB (aa aB (aa aB aq)))) aq))))
   case r0 =>
    refine' aA ?s1 ?r1
    case s1 =>
     refine' Hs ?e ?t ?hs ?hw
     case hs=>rfl
     case hw=>rfl
     case t=>exact (dU (K:=K) 2 rfl rfl (aZ (aG (i:=2) dm.nd rfl (Qm rfl)) (aZ (aG (i:=3) dm.nd rfl (Qm rfl)) d8)))
     case e =>
      refine' bh (r:=gq K) ?h1 ?l ?ix ?h2
      case h1=>exact aQ
      case h2=>exact fun _ _=>rfl
      case ix=>exact (bh (r:=gq K) aQ (pv 1) aB (fun _ _=>rfl))
      case l =>
       refine' bK ?l0
       case l0 =>
        refine' cM ?a0 ?l1 ?hh
        case hh=>intro x p z; cases z
        case a0=>exact (bU (aa aB (aa aB aq)))
        case l1 =>
         refine' cM ?a1 ?l2 ?hh
         case hh=>intro x p z; cases z
         case a1=>exact (bU (aa aB (aa aB aq)))
         case l2 =>
          refine' cM ?a2 ?l3 ?hh
          case hh=>intro x p z; cases z
          case a2=>exact (bU (aa aB (aa aB aq)))
          case l3 =>
           refine' cM ?a3 ?l4 ?hh
           case hh=>intro x p z; cases z
           case a3=>exact (bU (aa aB (aa aB aq)))
           case l4 =>
            refine' cM ?a4 ?l5 ?hh
            case hh=>intro x p z; cases z
            case a4=>exact (bU (aa aB (aa aB aq)))
            case l5 =>
             refine' cM ?a5 ?l6 ?hh
             case hh=>intro x p z; cases z
             case a5=>exact (bU (aa aB (aa aB aq)))
             case l6 =>
              refine' cM ?a6 ?l7 ?hh
              case hh=>intro x p z; cases z
              case a6=>exact (bU (aa aB (aa aB aq)))
              case l7=>exact aq
    case r1 =>
     refine' aA ?s2 ?r2
     case s2=>exact (aU (i:=4) dm.nd rfl (Qm rfl) (aY D_law_giving hr (aa (aY D_law_cell hr (aa (pv 0) (aa aB aq))) (aa (pv 2) (aa (pv 3) aq)))))
     case r2 =>
      refine' aA ?s3 ?r3
      case s3=>exact (bZ (aV vH (bh (r:=gq K) aQ (pv 1) aB (fun _ _=>rfl)) aB (bf _)) (aC (aU (i:=4) dm.nd rfl (Qm rfl) (aO (r:=Jv K) JZ (bU (aa aB aq)) (pv 2)))) aX)
      case r3 =>
       refine' aC ?s4
       case s4=>exact (aK (bU (aa (pv 2) (aa (pv 3) (aa (aY D_law_book hr (aa (pv 0) (aa aB (aa (pv 2) (aa (pv 3) aq))))) (aa (pv 4) aq))))))
  refine⟨_,rfl,a,ss,0,rfl,hS,small (by show 3<=1000; decide),fun p2 h2=>?_⟩
  generalize eH2:upd H p2 _=H2
  obtain⟨g2,e2⟩:=aJ eH2 h2
  refine⟨_,p2,[7,3,12],rfl,SqL.of e2,by decide,by decide,fun p3 h3=>?_⟩
  generalize eH3:upd H2 p3 _=H3
  obtain⟨g3,e3⟩:=aJ eH3 h3
  have hps:∀ q∈([7,3,12]:List Int),0 < q:=by decide
  obtain⟨d0,k0,b0⟩:=bL (c:=j7 (ss.getD 0 0)) (i:=0) hps rfl
  obtain⟨d1,k1,b1⟩:=bL (c:=j7 (ss.getD 0 0)) (i:=1) hps rfl
  have a0:=aR (d9 k0)
  have a1:=aR (d9 k1)
  have s3:aM H H3:=g2.trans g3
  refine⟨small (by show 2<=1000; decide),fun t1 u1=>?_⟩
  generalize eT1:upd H3 t1 _=T1
  obtain⟨gt1,et1⟩:=aJ eT1 u1
  refine⟨small (by show 2<=1000; decide),fun t2 u2=>?_⟩
  generalize eT2:upd T1 t2 _=T2
  obtain⟨gt2,et2⟩:=aJ eT2 u2
  refine⟨small (by show 2<=1000; decide),fun t3 u3=>?_⟩
  generalize eT3:upd T2 t3 _=T3
  obtain⟨gt3,et3⟩:=aJ eT3 u3
  refine⟨small (by show 2<=1000; decide),fun t4 u4=>?_⟩
  generalize eT4:upd T3 t4 _=T4
  obtain⟨gt4,et4⟩:=aJ eT4 u4
  refine⟨small (by show 2<=1000; decide),fun t5 u5=>?_⟩
  generalize eT5:upd T4 t5 _=T5
  obtain⟨gt5,et5⟩:=aJ eT5 u5
  refine⟨small (by show 2<=1000; decide),fun t6 u6=>?_⟩
  generalize eT6:upd T5 t6 _=T6
  obtain⟨gt6,et6⟩:=aJ eT6 u6
  refine⟨small (by show 2<=1000; decide),fun t7 u7=>?_⟩
  generalize eT7:upd T6 t7 _=T7
  obtain⟨gt7,et7⟩:=aJ eT7 u7
  refine⟨small (by show 7<=1000; decide),fun t8 u8=>?_⟩
  generalize eT8:upd T7 t8 _=T8
  obtain⟨gt8,et8⟩:=aJ eT8 u8
  have w7:aM T7 T8:=gt8
  have w6:aM T6 T8:=gt7.trans w7
  have w5:aM T5 T8:=gt6.trans w6
  have w4:aM T4 T8:=gt5.trans w5
  have w3:aM T3 T8:=gt4.trans w4
  have w2:aM T2 T8:=gt3.trans w3
  have w1:aM T1 T8:=gt2.trans w2
  have w0:aM H3 T8:=gt1.trans w1
  obtain⟨tt,n,mo,htt,ett,n1,n12,m1,m9,hpow⟩:∃ (tt:Addr) (n mo:Nat),atI [V.ref t1,.ref t2,.ref t3,.ref t4,.ref t5,.ref t6,.ref t7] d0=some (.ref tt)/\T8 tt=some (.tup [.int (n:Int),.int (mo:Int)])/\1<=n/\n<=12/\1<=mo/\mo<=9/\(mo+1) ^ n<=256/\n<=6:=by
   rcases (show d0=0∨d0=1∨d0=2∨d0=3∨d0=4∨d0=5∨d0=6 by lia) with z | z | z | z | z | z | z
   ·exact⟨t1,3,3,by rw[z]; rfl,w1 _ _ et1,by decide,by decide,by decide,by decide,by decide,by decide⟩
   ·exact⟨t2,2,9,by rw[z]; rfl,w2 _ _ et2,by decide,by decide,by decide,by decide,by decide,by decide⟩
   ·exact⟨t3,4,3,by rw[z]; rfl,w3 _ _ et3,by decide,by decide,by decide,by decide,by decide,by decide⟩
   ·exact⟨t4,1,9,by rw[z]; rfl,w4 _ _ et4,by decide,by decide,by decide,by decide,by decide,by decide⟩
   ·exact⟨t5,3,2,by rw[z]; rfl,w5 _ _ et5,by decide,by decide,by decide,by decide,by decide,by decide⟩
   ·exact⟨t6,5,2,by rw[z]; rfl,w6 _ _ et6,by decide,by decide,by decide,by decide,by decide,by decide⟩
   ·exact⟨t7,6,1,by rw[z]; rfl,w7 _ _ et7,by decide,by decide,by decide,by decide,by decide,by decide⟩
  have s8:aM H T8:=s3.trans w0
  refine⟨_,rfl,p3,_,_,_,rfl,rfl,SqL.of (w0 _ _ e3),a0,t8,_,_,_,rfl,rfl,SqL.of et8,htt,tt,_,rfl,SqT.of ett,rfl,_,_,rfl,_,_,rfl,rfl,?_⟩
  refine⟨_,rfl,a,ss,1,rfl,vd s8 hS,_,rfl,_,rfl,ss.getD 1 0,n,(mo:Int),rfl,by lia,by lia,by lia,fun r4 H4 s4 _ e4=>?_⟩
  refine gN ?_
  dsimp only
  show Dy (FN _ _ _) _ _ _ _
  have s4':aM H H4:=s8.trans s4
  refine jt (fun σ H5=>∃ (f:Addr) (fl:List Int),σ=[some (.ref a),some (.ref p3),some (.int (n:Int)),some (.int (mo:Int)),some (.ref f)]/\aM H H5/\H5 f=some (.tup (fl.map V.int))/\fl.length=n/\∀ x∈fl,0<=x/\x<=(mo:Int)) ?rest (fun _ R=>?_)
  case rest =>
   rintro σ H5 ⟨f,fl,rfl,s5,e5,lf,hf⟩
   refine⟨_,rfl,_,rfl,_,rfl,_,rfl,_,rfl,a,ss,2,n,mo,rfl,vd s5 hS,by decide,n1,n12,m1,m9,fun b bk H6 s6 rb lb few=>?_⟩
   refine⟨_,rfl,small (by show 4<=1000; decide),fun p7 h7=>?_⟩
   have sn:=au h7 (.tup [.int (n:Int),.int (mo:Int),.ref b,.ref f])
   exact q p7 n mo b f bk fl _ (s5.trans (s6.trans sn)) aj m1 m9 hpow (fun x hx=>(hf x hx).2) ⟨n1,n12,rb.mono sn,lb,sn _ _ (s6 _ _ e5),lf,fun x hx=>⟨(hf x hx).1,by have:=(hf x hx).2; lia⟩⟩ few
  ·refine⟨_,rfl,p3,_,_,_,rfl,rfl,SqL.of (s4 _ _ (w0 _ _ e3)),a1,_,_,rfl,rfl,_,rfl,?_⟩
   refine yS (fun _=>?_) (fun _=>R _ _ ⟨r4,_,rfl,s4',e4,jn _ _ _,Ig (by lia)⟩)
   refine M8 (z:=(n:Int)) (n:=n) rfl n1 (by lia) rfl fun ra Ha sa ea=>?_
   refine R _ _ ⟨ra,Qh n 0,rfl,s4'.trans sa,ea,Rj,fun x hx=>?_⟩
   rw[(List.mem_replicate.mp hx).2]
   lia
theorem o8:∀ {c:List Nat} {m n:Nat},c.Pairwise (· < ·)->(∀ i∈c,m<=i/\i < n)->c.length<=n - m
 | [],m,n,_,_=>QB _
 | a::c,m,n,hp,h=>by
  rw[R7] at hp
  have h1:=h a Qa
  have:=o8 (c:=c) (m:=a+1) (n:=n) hp.2 fun i hi=>⟨hp.1 i hi,(h i (Qg _ hi)).2⟩
  rw[Qo]
  lia
def iN (c:List Nat):List Int:=c.map fun i:Nat=>(i:Int)
theorem xK (x:Nat):∀ c:List Nat,inV (.int (x:Int)) (c.map vN)=decide (x∈c)
 | []=>rfl
 | y::c=>by
  have ih:=xK x c
  unfold inV at ih ⊢
  rw[QM,Vu,ih]
  by_cases e:x=y
  ·subst e
   rw[decide_eq_true Qa]
   simp [vN,eqV]
  ·have:eqV (vN y) (.int (x:Int))=false:=by
    simp [vN,eqV]
    lia
   rw[this,W9]
   exact decide_eq_decide.mpr (by simp [e])
theorem Aw (c:List Nat):(c.map vN).all pU=true:=by
 rw[List.all_map,List.all_eq_true]
 intro x _
 rfl
def lfF (gs hs:List Int) (c:List Nat):List Int:=(P0 gs.length).map fun i=>if i∈c then hs.getD i 0 else gs.getD i 0
abbrev qH:Stmt:=top 1
theorem CP:aW ["giving","high","crowd"] ["giving","high","crowd"] (aH qH):=⟨rfl,rfl,rfl,by decide+kernel,rfl,by decide+kernel,by decide+kernel⟩
inductive Cp (vs:List V) (H:Hp) (Q:VK):Prop where
 | mk (a b d:Addr) (gs hs:List Int) (c:List Nat) (z0:vs=[.ref a,.ref b,.ref d]) (z1:H a=some (.tup (gs.map V.int))) (z2:H b=some (.tup (hs.map V.int))) (z3:H d=some (.lst (c.map vN))) (z4:gs.length=hs.length) (z5:gs.length<=100) (z6:∀ (r:Addr) (H':Hp),aM H H'->H' r=some (.tup ((lfF gs hs c).map V.int))->Q (.ref r) H'):Cp  vs H Q
def Gp:Sp:=fun vs H Q _=>Cp  vs H Q
theorem CQ (F:Fun K "lifted" "lifted" qH f fd) (B:Bt mg) :
  fj P w K mg base CX0 1 f fd ["giving","high","crowd"] Gp:=by
 refine F.ok CP (fun vs H Q E h=>?_) (fun cdv A outer s H vs Q E hr h=>?_)
 ·obtain⟨a,b,d,gs,hs,c,rfl,_⟩:=h
  rfl
 ·obtain⟨a,b,d,gs,hs,c,rfl,ha,hb,hd,hl,l100,q⟩:=h
  refine⟨_,(aC (aK (bG (r:=fC K) bB rfl B.tuple_ bQ (aa (bA (L:=["one","step"]) (F:=["crowd","high"]) (cap:=[2,1]) rfl (bj rfl rfl (by kernel_rfl)) (pN rfl B.enumerate_ (aa (pv 0) aq)) (fun _ _ _ _ _=>(dU (K:=K) 2 rfl rfl (aZ (aG (i:=0) (aP (by decide+kernel)) rfl (Qm rfl)) (aZ (aG (i:=1) (aP (by decide+kernel)) rfl (Qm rfl)) d8)))) (fun _ _ _ _ _=>bC) (fun _ _ _ _ _=>(xH (aV (r:=rIn K false) jO (pv 0) (pv 2) rfl) (bh (r:=jP K) bW (pv 3) (pv 0) (fun _ _=>rfl)) (pv 1)))) aq)))),?_⟩
  refine⟨_,rfl,a,_,rfl,SqT.of ha,fun D hD=>kJ (K:=K) (a:=a) (xs:=gs.map V.int) (fun i zs σ' H3=>(∃ u v,σ'=[u,v,some (.ref d),some (.ref b)])/\aM H H3/\H3 D=some (.lst zs)/\zs=((P0 i).map fun j=>if j∈c then hs.getD j 0 else gs.getD j 0).map V.int)
   ⟨⟨_,_,rfl⟩,au hD _,aj,rfl⟩ (fun i zs σ' H3 _ h=>⟨SqT.of (h.2.1 _ _ ha),h.2.2.1⟩) ?_ ?_⟩
  ·rintro i zs x p σ' H3 hx hp ⟨⟨u,v,rfl⟩,sm,eD,rfl⟩
   obtain⟨y,hy,rfl⟩:=int_at hx
   have hin:=(List.getElem?_eq_some_iff.mp hy).1
   generalize eH4:upd H3 p _=H4
   obtain⟨g4,e4⟩:=aJ eH4 hp
   have s4:aM H H4:=sm.trans g4
   refine⟨p,_,rfl,SqT.of e4,rfl,_,_,rfl,_,_,rfl,rfl,?_⟩
   refine tT ?_
   have gy:gs.getD i 0=y:=by rw[PL,hy]; rfl
   have hih:i < hs.length:=by lia
   have gi:hs.getD i 0=hs[i]:=by rw[PL,PJ hih]; rfl
   refine⟨_,rfl,_,rfl,d,_,rfl,.inl (SqL.of (s4 _ _ hd)),rfl,Aw c,_,rfl,?_⟩
   have nx:∀ z:Int,z=(if i∈c then hs.getD i 0 else gs.getD i 0)->((P0 (i+1)).map fun j=>if j∈c then hs.getD j 0 else gs.getD j 0).map V.int=((P0 i).map fun j=>if j∈c then hs.getD j 0 else gs.getD j 0).map V.int++[.int z]:=fun z ez=>by
    rw[ez,SM,PQ,PQ]
    rfl
   have ln:(((P0 i).map fun j=>if j∈c then hs.getD j 0 else gs.getD j 0).map V.int).length < sizeLine:=aD (by rw[Py,Py,Qs]; lia)
   rw[xK]
   by_cases e:i∈c
   ·rw[decide_eq_true e]
    refine jw ⟨_,rfl,_,rfl,b,_,_,_,rfl,rfl,SqT.of (s4 _ _ hb),o6 hih,g4 _ _ eD,ln,⟨_,_,rfl⟩,aF s4 hD _,aj,?_⟩
    exact (nx _ (by rw[if_pos e,gi])).symm
   ·rw[decide_eq_false e]
    refine gG ⟨_,rfl,g4 _ _ eD,ln,⟨_,_,rfl⟩,aF s4 hD _,aj,?_⟩
    exact (nx _ (by rw[if_neg e,gy])).symm
  ·rintro zs σ' H3 ⟨_,sm,eD,rfl⟩
   refine⟨D,_,rfl,.inl ⟨SqL.of eD,fun l hl'=>?_⟩⟩
   refine q l _ (sm.trans (au hl' _)) ?_
   rw[aj,Py]
   rfl
theorem bw {t u:TS} {D:Ends} {σ:St} {H:Hp} (P:St->Hp->Prop) (h2:∀ σ H,P σ H->u D σ H) (h1:∀ N:St->Hp->Prop,(∀ σ H,P σ H->N σ H)->t { D with nx:=N } σ H):Dy t u D σ H:=h1 (u D) h2
abbrev ji:Stmt:=top 39
theorem tu:aW ["_law_cell_here","_law_many"] ["_law_cell_here","_law_many"] (aH ji):=⟨rfl,rfl,rfl,by decide+kernel,rfl,by decide+kernel,by decide+kernel⟩
inductive xm (vs:List V) (H:Hp) (Q:VK):Prop where
 | mk (c:Int) (m:Nat) (z0:vs=[.int c,.int (m:Int)]) (z1:m<=100) (z2:∀ (r:Addr) (ns:List Int) (H':Hp),aM H H'->H r=none->ns.length=m->(∀ x∈ns,0<=x)->H' r=some (.lst (ns.map V.int))->Q (.ref r) H'):xm  vs H Q
def Dg:Sp:=fun vs H Q _=>xm  vs H Q
theorem rK (F:Fun K "_law_picks" "_law_picks" ji f fd) (B:Bt mg)
  (D_law_draws:Df P w K mg base "_law_draws" 1 ["_law_cell_here","_law_parts"] (jc K)):fj P w K mg base CX0 2 f fd ["_law_cell_here","_law_many"] Dg:=by
 refine F.ok tu (fun vs H Q E h=>?_) (fun cdv A outer s H vs Q E hr h=>?_)
 ·obtain⟨c,m,rfl,_⟩:=h
  rfl
 ·obtain⟨c,m,rfl,hm,q⟩:=h
  refine⟨_,(aA (bZ (aV yj (aL jF rfl B.abs_ ud (aa (pv 0) aq)) (aO mX aB aB) (bf _)) (aC (aK (aY D_law_draws hr (aa (pv 0) (aa (aO GF (bK (aa aB aq)) (pv 1)) aq))))) aX)
 (aC (aK (bA (L:=["_law_k"]) (F:=["_law_cell_here"]) (cap:=[0]) rfl (bj rfl rfl (by kernel_rfl)) (cL rfl B.range_ (aa (pv 1) aq)) (fun _ _ _ _ _=>(aG (i:=0) (aP (by decide+kernel)) rfl (Qm rfl))) (fun _ _ _ _ _=>bC) (fun _ _ _ _ _=>(bh (r:=gq K) aQ (aY D_law_draws hr (aa (aO bT (pv 1) (aO gM aB (pv 0))) (aa (bK (aa aB aq)) aq))) aB (fun _ _=>rfl))))))),?_⟩
  have em:((m:Int)).toNat=m:=QC m
  refine⟨_,rfl,_,rfl,_,_,rfl,rfl,⟨by decide,by decide,by decide⟩,_,_,rfl,rfl,_,rfl,?_⟩
  refine yS (fun h=>?_) (fun h=>?_)
  ·refine⟨_,rfl,small (by show 1<=1000; decide),fun p1 h1=>?_⟩
   generalize eH1:upd H p1 _=H1
   obtain⟨g1,e1⟩:=aJ eH1 h1
   refine⟨_,rfl,p1,_,_,rfl,rfl,e1,by lia,by lia,small (by show 1 * ((m:Int)).toNat<=1000; lia),fun p2 h2=>?_⟩
   rw[qL,em]
   generalize eH2:upd H1 p2 _=H2
   obtain⟨g2,e2⟩:=aJ eH2 h2
   refine⟨c,p2,Qh m 27720,rfl,SqL.of e2,fun x hx=>by rw[(List.mem_replicate.mp hx).2]; decide,by rw[Rj]; lia,fun r h3=>?_⟩
   have s12:aM H H2:=g1.trans g2
   refine q r _ _ (s12.trans (au h3 _)) (s12.free h3) ?_ ?_ aj
   ·unfold tU
    rw[dM,Rj]
   ·intro x hx
    obtain⟨i,hi,rfl⟩:=RX hx
    unfold tU at hi ⊢
    have hi':i < m:=by rw[dM,Rj] at hi; exact hi
    obtain⟨v,e,b0,_⟩:=bL (c:=j7 c) (i:=i) (ps:=Qh m 27720) (p:=27720) (fun x hx=>by rw[(List.mem_replicate.mp hx).2]; decide) (by rw[T9,if_pos hi'])
    rw[PJ hi] at e
    rw[QJ e]
    exact b0
  ·refine nN ?_
   dsimp only
   refine⟨_,rfl,_,rfl,by lia,by lia,fun D hD=>dw (lo:=0) (n:=((m:Int)).toNat) (fun i zs σ' H2=>(∃ u,σ'=[u,some (.int c)])/\aM H H2/\H2 D=some (.lst zs)/\∃ ns:List Int,zs=ns.map V.int/\ns.length=i/\∀ x∈ns,0<=x)
    ⟨⟨_,rfl⟩,au hD _,aj,[],rfl,rfl,by simp⟩ (fun i zs σ' H2 _ h=>h.2.2.1) ?_ ?_⟩
   ·rintro i zs σ' H2 hi ⟨⟨u,rfl⟩,sm,eD,ns,ez,ln,hns⟩
    refine gT ?_
    refine⟨_,rfl,_,rfl,_,_,rfl,rfl,.inl ⟨by decide,by decide⟩,_,_,rfl,rfl,small (by show 1<=1000; decide),fun p1 h1=>?_⟩
    generalize eH3:upd H2 p1 _=H3
    obtain⟨g3,e3⟩:=aJ eH3 h1
    refine⟨_,p1,[27720],rfl,SqL.of e3,by decide,by decide,fun r h4=>?_⟩
    generalize eH4:upd H3 r _=H4
    obtain⟨g4,e4⟩:=aJ eH4 h4
    obtain⟨d0,k0,b0⟩:=bL (c:=j7 (c+101 * (0+(i:Int)))) (i:=0) (ps:=[27720]) (by decide) rfl
    have a0:=aR (d9 k0)
    have s24:aM H2 H4:=g3.trans g4
    refine⟨r,_,_,_,rfl,rfl,SqL.of e4,a0,s24 _ _ eD,aD (by rw[ez,Py]; lia),⟨_,rfl⟩,aF (sm.trans s24) hD _,aj,ns++[d0],?_,?_,?_⟩
    ·rw[ez,PQ]
     rfl
    ·rw[Qj,ln]
     rfl
    ·intro x hx
     rcases List.mem_append.mp hx with z | z
     ·exact hns x z
     ·rw[List.mem_singleton.mp z]
      exact b0.1
   ·rintro zs σ' H2 ⟨_,sm,eD,ns,ez,ln,hns⟩
    exact q D ns H2 sm hD (by lia) hns (by rw[eD,ez])
abbrev iZ:Stmt:=top 40
theorem fV:aW ["_law_cell_here","_law_n","_law_rest","_law_found","_law_pick"] ["_law_cell_here","_law_n"] (aH iZ):=⟨rfl,rfl,rfl,by decide+kernel,rfl,by decide+kernel,by decide+kernel⟩
inductive wZ (vs:List V) (H:Hp) (Q:VK):Prop where
 | mk (c:Int) (n:Nat) (z0:vs=[.int c,.int (n:Int)]) (z1:1<=n) (z2:n<=12) (z3:∀ (r:Addr) (rs:List Nat) (H':Hp),aM H H'->H r=none->rs.Perm (P0 n)->H' r=some (.lst (rs.map vN))->Q (.ref r) H'):wZ  vs H Q
def Dr:Sp:=fun vs H Q _=>wZ  vs H Q
theorem Fj {l:Addr} {xs:List V} {k:Nat} {y:V} {H:Hp} {Q:VK} (hl:H l=some (.lst xs)) (hk:k < xs.length) (h5:xs.length<=100) (hy:xs[k]? = some y) (q:Q y (upd H l (.lst (xs.eraseIdx k)))):Hn (.ref l) [.int (k:Int)] H Q:=by
 refine⟨l,xs,(k:Int),k,y,rfl,rfl,hl,by lia,by lia,?_,hy,q⟩
 have hj:(if (k:Int) < 0 then (k:Int)+(xs.length:Int) else (k:Int))=(k:Int):=if_neg (by lia)
 have hd:((decide (0<=(k:Int)) && decide ((k:Int) < (xs.length:Int)))=true):=by
  rw[decide_eq_true (by lia),decide_eq_true (by lia)]
  rfl
 show (if (decide (0<=if (k:Int) < 0 then (k:Int)+(xs.length:Int) else (k:Int)) && decide ((if (k:Int) < 0 then (k:Int)+(xs.length:Int) else (k:Int)) < (xs.length:Int)))=true then some (if (k:Int) < 0 then (k:Int)+(xs.length:Int) else (k:Int)).toNat else none)=some k
 rw[hj,if_pos hd,QC]
theorem qX {α β:Type} (f:α->β):∀ (xs:List α) (k:Nat),(xs.map f).eraseIdx k=(xs.eraseIdx k).map f
 | [],_=>rfl
 | _::_,0=>rfl
 | x::r,k+1=>by
  show f x::(r.map f).eraseIdx k=f x::(r.eraseIdx k).map f
  rw[qX f r k]
theorem j9 {α:Type}:∀ {xs:List α} {k:Nat} {y:α},xs[k]? = some y->(y::xs.eraseIdx k).Perm xs
 | [],_,_,h=>by simp at h
 | x::r,0,y,h=>by
  cases (show some x=some y from h)
  exact .refl _
 | x::r,k+1,y,h=>by
  have ih:=j9 (xs:=r) (k:=k) (y:=y) (by simpa using h)
  exact (List.Perm.swap x y (r.eraseIdx k)).trans (ih.cons x)
theorem sZ (F:Fun K "_law_order" "_law_order" iZ f fd) (B:Bt mg)
  (D_law_picks:Df P w K mg base "_law_picks" 2 ["_law_cell_here","_law_many"] Dg):fj P w K mg base CX0 3 f fd ["_law_cell_here","_law_n"] Dr:=by
 refine F.ok fV (fun vs H Q E h=>?_) (fun cdv A outer s H vs Q E hr h=>?_)
 ·obtain⟨c,n,rfl,_⟩:=h
  rfl
 ·obtain⟨c,n,rfl,n1,n12,q⟩:=h
  refine⟨_,(aA (aU (i:=2) fV.nd rfl (Qm rfl) (rB rfl rfl B.list_ rfl B.range_ (aa (pv 1) aq)))
 (aA (aU (i:=3) fV.nd rfl (Qm rfl) (bK aq))
 (aA (gK Rt rfl (dX (aY D_law_picks hr (aa (pv 0) (aa (pv 1) aq)))) (aG (i:=4) fV.nd rfl (Qm rfl)) (aC (gf (j8 QH Rq Rp cP (pv 3) (aa (j8 QH PySem.F.slot_list_pop PySem.F.type_list_pop Er (pv 2) (aa (aO cV (pv 4) (aL (r:=yg K) cC rfl B.len_ ie (aa (pv 2) aq))) aq)) aq)))))
 (aC (aK (pv 3)))))),?_⟩
  refine⟨_,rfl,n,rfl,by lia,fun l h0=>?_⟩
  rw[← eG]
  generalize eH1:upd H l _=H1
  obtain⟨g1,e1⟩:=aJ eH1 h0
  refine⟨small (by show 0<=1000; decide),fun r h2=>?_⟩
  generalize eH2:upd H1 r _=H2
  obtain⟨g2,e2⟩:=aJ eH2 h2
  have hrl:r≠l:=fun z=>by rw[z,e1] at h2; cases h2
  refine⟨_,rfl,_,rfl,c,n,rfl,by lia,fun pp ns H3 s3 fpp ln hns epp=>?_⟩
  have e13:=s3 _ _ (g2 _ _ e1)
  have e23:=s3 _ _ e2
  have hpr:pp≠r:=fun z=>by rw[z,e2] at fpp; cases fpp
  have hpl:pp≠l:=fun z=>by rw[z,g2 _ _ e1] at fpp; cases fpp
  refine⟨pp,rfl,⟨_,SqL.of epp⟩,mj (K:=K) (a:=pp) (xs:=ns.map V.int) (fun i σ H4=>∃ (fs ms:List Nat),(∃ u,σ=[some (.int c),some (.int (n:Int)),some (.ref l),some (.ref r),u])/\aM H H4/\H4 pp=some (.lst (ns.map V.int))/\H4 l=some (.lst (ms.map vN))/\H4 r=some (.lst (fs.map vN))/\(fs++ms).Perm (P0 n)/\ms.length+i=n)
   ⟨[],P0 n,⟨_,rfl⟩,g1.trans (g2.trans s3),epp,e13,e23,.refl _,by rw[Qs]; rfl⟩ (fun i σ H4 _ h=>by obtain⟨_,_,_,_,z,_⟩:=h; exact SqL.of z) ?_ ?_⟩
  ·rintro i x σ H4 hx ⟨fs,ms,⟨u,rfl⟩,s4,ep4,el4,er4,pm,lm⟩
   obtain⟨pk,hpk,rfl⟩:=int_at hx
   have hi:i < ns.length:=(List.getElem?_eq_some_iff.mp hpk).1
   have lml:((ms.map vN).length:Int)=(ms.length:Int):=by rw[Py]
   have hms:0 < ms.length:=by lia
   have v1:0<=pk % ((ms.map vN).length:Int):=Rn _ (by lia)
   have v2:pk % ((ms.map vN).length:Int) < ((ms.map vN).length:Int):=QT _ (by lia)
   obtain⟨k,hk⟩:=Ua v1
   have hkm:k < ms.length:=by lia
   obtain⟨y,hy⟩:∃ y,ms[k]? = some y:=⟨_,PJ hkm⟩
   have hfl:fs.length+ms.length=n:=by
    have:=pm.length_eq
    rw[Qj,Qs] at this
    exact this
   refine⟨_,rfl,.inl ⟨rfl,_,SqL.of er4⟩,_,rfl,.inl ⟨rfl,_,SqL.of el4⟩,_,rfl,_,rfl,l,_,rfl,.inl (SqL.of el4),_,_,rfl,rfl,(by show (0:Int) < ((ms.map vN).length:Int); lia),?_⟩
   dsimp only
   rw[hk]
   unfold LK
   dsimp only
   refine Fj el4 (by rw[Py]; exact hkm) (by rw[Py]; lia) (y:=vN y) (by rw[Qn,hy]; rfl) ?_
   have er5:upd H4 l (.lst ((ms.map vN).eraseIdx k)) r=some (.lst (fs.map vN)):=by rw[bx hrl]; exact er4
   refine⟨r,_,_,rfl,rfl,er5,aD (by rw[Py]; lia),fs++[y],ms.eraseIdx k,⟨_,rfl⟩,?_,?_,?_,?_,?_,?_⟩
   ·exact aF (aF s4 h0 _) (g1.free h2) _
   ·rw[bx hpr,bx hpl]
    exact ep4
   ·rw[bx (TF hrl),aj,qX]
   ·rw[aj,PQ]
    rfl
   ·rw[Tt]
    exact ((j9 hy).append_left fs).trans pm
   ·have:=(j9 hy).length_eq
    rw[Qo] at this
    lia
  ·rintro σ H4 ⟨fs,ms,⟨u,rfl⟩,s4,ep4,el4,er4,pm,lm⟩
   rw[Py,ln] at lm
   have:ms=[]:=List.length_eq_zero_iff.mp (by lia)
   rw[this,SN] at pm
   exact⟨_,rfl,q r fs H4 s4 (g1.free h2) pm er4⟩
def ixP:List Nat->Nat->Nat
 | [],_=>0
 | x::r,j=>if x=j then 0 else ixP r j+1
theorem tM:∀ {rs:List Nat} {j:Nat},j∈rs->rs[ixP rs j]? = some j/\∀ i < ixP rs j,rs[i]?≠some j
 | [],_,h=>by cases h
 | x::r,j,h=>by
  rw[ixP]
  by_cases e:x=j
  ·rw[if_pos e]
   exact⟨by rw[e]; rfl,fun i hi=>absurd hi (VG _)⟩
  ·rw[if_neg e]
   have hr:j∈r:=by
    rcases List.mem_cons.mp h with z | z
    ·exact absurd z.symm e
    ·exact z
   obtain⟨h1,h2⟩:=tM hr
   refine⟨by simpa using h1,fun i hi=>?_⟩
   cases i with
   | zero=>exact fun z=>e (by simpa using z)
   | succ i=>simpa using h2 i (by lia)
theorem G9 {rs:List Nat} (nd:rs.Nodup) {i:Nat} (hi:i < rs.length):ixP rs rs[i]=i:=by
 have h:=(tM (Rg hi)).1
 have hl:=(List.getElem?_eq_some_iff.mp h).1
 rw[PJ hl] at h
 exact (Wt nd).mp (QJ h)
section
variable {n:Nat} {rs:List Nat}
theorem cR (h:rs.Perm (P0 n)):rs.Nodup/\rs.length=n/\(∀ x∈rs,x < n)/\∀ j < n,j∈rs:=⟨h.nodup_iff.mpr List.nodup_range,by rw[h.length_eq,Qs],fun x hx=>List.mem_range.mp (h.mem_iff.mp hx),fun j hj=>h.mem_iff.mpr (List.mem_range.mpr hj)⟩
def O9 (n:Nat) (rs:List Nat):List Nat:=(P0 n).map (ixP rs)
theorem Mg (h:rs.Perm (P0 n)):∀ x∈O9 n rs,x < n:=fun x hx=>by
 obtain⟨j,hj,rfl⟩:=List.mem_map.mp hx
 obtain⟨_,hl,_,hm⟩:=cR h
 have:=(List.getElem?_eq_some_iff.mp (tM (hm j (List.mem_range.mp hj))).1).1
 lia
theorem Dp (hl:rs.length=n) {i:Nat} (hi:i < n):dh rs i=rs[i]'(by lia):=by
 unfold dh
 rw[PL,PJ (by lia)]
 rfl
def cj (n:Nat) (rs:List Nat) (g:List Int):List Int:=(P0 n).map fun j=>g.getD (ixP rs j) 0
theorem mG (h:rs.Perm (P0 n)) (g:List Int):∀ i < n,(cj n rs g).getD (dh rs i) 0=g.getD i 0:=fun i hi=>by
 obtain⟨nd,hl,hv,hm⟩:=cR h
 have hi':i < rs.length:=by lia
 have hj:=hv _ (Rg hi')
 rw[Dp hl hi]
 unfold cj
 rw[PL,Qn,RM hj]
 show g.getD (ixP rs rs[i]) 0=_
 rw[G9 nd hi']
end
theorem wC {l:Addr} {rs:List Nat} {j:Nat} {H:Hp} {Q:VK} (hl:H l=some (.lst (rs.map vN))) (hj:j∈rs) (q:Q (.int (ixP rs j:Int)) H):GX (.ref l) [.int (j:Int)] H Q:=by
 obtain⟨h1,h2⟩:=tM hj
 refine⟨l,rs.map fun i:Nat=>(i:Int),(j:Int),ixP rs j,rfl,rfl,by rw[hl,eG],by rw[Qn,h1]; rfl,fun i hi z=>h2 i hi ?_,q⟩
 rw[Qn] at z
 cases e:rs[i]? with
 | none=>rw[e] at z; cases z
 | some x =>
  rw[e] at z
  have:(x:Int)=(j:Int):=QJ z
  congr 1
  lia
def hdF (bk:List (List Pl)) (lo g:List Int):List Int:=(P0 bk.length).map fun i=>max (lo.getD i 0) (min (g.getD i 0) (duF g 0 (bk.getD i [])))
theorem pG {bk:List (List Pl)} {lo g:List Int} {i:Nat} (h:i < bk.length):(hdF bk lo g).getD i 0=max (lo.getD i 0) (min (g.getD i 0) (duF g 0 (bk.getD i []))):=by
 unfold hdF
 rw[PL,Qn,RM h]
 rfl
theorem gP (bk:List (List Pl)) (lo g:List Int):(hdF bk lo g).length=bk.length:=by unfold hdF; rw[Py,Qs]
def Low (n:Nat) (fl:List Int) (bk:List (List Pl)) (lo:List Int):Prop:=okG n lo/\eX lo fl bk=lo/\∀ g,LeG (eX g fl bk) g->LeG lo g
def InS (n:Nat) (fl:List Int) (bk:List (List Pl)) (lo:List Int) (c:List Nat) (g:List Int):Prop:=okG n g/\(∀ i < n,i ∉ c->g.getD i 0=lo.getD i 0)/\LeG lo g/\LeG g (eX g fl bk)
def Fp (n:Nat) (fl:List Int) (bk:List (List Pl)) (lo:List Int) (c:List Nat) (g:List Int):Prop:=InS n fl bk lo c g/\∀ w,InS n fl bk lo c w->LeG w g
section
variable {n:Nat} {fl:List Int} {bk:List (List Pl)}
theorem gR (g:List Int):LeG g g:=fun i=>RC _
theorem Low.uniq {lo lo':List Int} (h:Low n fl bk lo) (h':Low n fl bk lo'):lo=lo' :=
 fJ (by rw[h.1.1,h'.1.1]) (h.2.2 _ (by rw[h'.2.1]; exact gR _)) (h'.2.2 _ (by rw[h.2.1]; exact gR _))
theorem Fp.uniq {lo:List Int} {c:List Nat} {g g':List Int} (h:Fp n fl bk lo c g) (h':Fp n fl bk lo c g'):g=g' :=
 fJ (by rw[h.1.1.1,h'.1.1.1]) (h'.2 _ h.1) (h.2 _ h'.1)
theorem du (hb:bk.length=n) (ok:okB bk) (hf:okG n fl) {m:Nat} (st:Stops (Fd fl bk) fl m):Low n fl bk (itF (Fd fl bk) fl m) :=
 ⟨dG hb ok hf hf m,st.1,fun _ h=>rN hb ok hf h m⟩
theorem Cq (hb:bk.length=n) (ok:okB bk) (hf:okG n fl) {lo:List Int} (h:Low n fl bk lo):LeG fl lo:=by
 have:=m8 hb ok hf lo
 rw[h.2.1] at this
 exact this
theorem mF (hb:bk.length=n) (ok:okB bk) {g g':List Int} (l:LeG g g') {i:Nat} (hi:i < n):duF g 0 (bk.getD i [])<=duF g' 0 (bk.getD i []):=by
 have h2:i < bk.length:=by lia
 rw[Fx h2]
 exact xr l (ok bk[i] (Rg h2)) (RC _)
theorem Ho (hb:bk.length=n) {lo g:List Int} (hl:okG n lo) (hg:okG n g) (l:LeG lo g):okG n (hdF bk lo g):=by
 refine pB (by rw[gP]; exact hb) fun i hi=>?_
 rw[pG (by lia)]
 have:=dB hl hi
 have:=dB hg hi
 have:=l i
 lia
theorem MF (hb:bk.length=n) {lo g:List Int} (hl:okG n lo):LeG lo (hdF bk lo g):=by
 refine iC (by rw[gP,hl.1,hb]) fun i hi=>?_
 rw[hl.1] at hi
 rw[pG (by lia)]
 lia
theorem Mw (hb:bk.length=n) {lo g:List Int} (hg:okG n g) (l:LeG lo g):LeG (hdF bk lo g) g:=by
 refine iC (by rw[gP,hg.1,hb]) fun i hi=>?_
 rw[gP] at hi
 rw[pG hi]
 have:=l i
 lia
theorem wy (hb:bk.length=n) (ok:okB bk) (hf:okG n fl) {lo g w:List Int} (hlo:Low n fl bk lo) (hw:okG n w) (hk:LeG w (eX w fl bk)) (l:LeG w g):LeG w (hdF bk lo g):=by
 refine iC (by rw[gP,hw.1,hb]) fun i hi=>?_
 rw[hw.1] at hi
 rw[pG (by lia)]
 have h1:=hk i
 rw[jo hb hf w hi] at h1
 have h2:=Cq hb ok hf hlo i
 have h3:=mF hb ok l hi
 have h4:=l i
 lia
theorem uY (hb:bk.length=n) {lo x:List Int} (hl:okG n lo) (hx:okG n x) (l:LeG lo x):∀ j,okG n (itF (hdF bk lo) x j)/\LeG lo (itF (hdF bk lo) x j)/\LeG (itF (hdF bk lo) x j) x
 | 0=>⟨hx,l,gR _⟩
 | j+1=>by
  obtain⟨h1,h2,h3⟩:=uY hb hl hx l j
  exact⟨Ho hb hl h1 h2,MF hb hl,(Mw hb h1 h2).trans h3⟩
theorem xR (hb:bk.length=n) {lo x:List Int} (hl:okG n lo) (hx:okG n x) (l:LeG lo x):∃ m,m<=9 * n/\Stops (hdF bk lo) x m:=by
 refine pZ (fun g=>9 * (n:Int) - g.sum) (9 * n) (fun k=>?_) (fun k=>?_) fun k hk=>?_
 ·obtain⟨h1,_,_⟩:=uY hb hl hx l k
  have:=sum_bound h1.2
  rw[h1.1] at this
  lia
 ·obtain⟨h1,_,_⟩:=uY hb hl hx l k
  have:=sum_bound h1.2
  lia
 ·obtain⟨h1,h2,_⟩:=uY hb hl hx l k
  have h3:=Ho hb hl h1 h2
  have h4:=Mw hb h1 h2
  obtain⟨s1,s2⟩:=gF (g:=hdF bk lo (itF (hdF bk lo) x k)) (g':=itF (hdF bk lo) x k) (by rw[h3.1,h1.1]) fun i _=>h4 i
  have:(hdF bk lo (itF (hdF bk lo) x k)).sum≠(itF (hdF bk lo) x k).sum:=fun z=>hk (s2 z)
  show 9 * (n:Int) - (itF (hdF bk lo) x k).sum < 9 * (n:Int) - (hdF bk lo (itF (hdF bk lo) x k)).sum
  lia
theorem m7 {gs hs:List Int} {c:List Nat} {i:Nat} (h:i < gs.length):(lfF gs hs c).getD i 0=if i∈c then hs.getD i 0 else gs.getD i 0:=by
 unfold lfF
 rw[PL,Qn,RM h]
 rfl
theorem jU (gs hs:List Int) (c:List Nat):(lfF gs hs c).length=gs.length:=by unfold lfF; rw[Py,Qs]
theorem vZ {gs hs:List Int} (hg:okG n gs) (hh:okG n hs) (c:List Nat):okG n (lfF gs hs c):=by
 refine pB (by rw[jU]; exact hg.1) fun i hi=>?_
 rw[m7 (by rw[hg.1]; exact hi)]
 have:=dB hg hi
 have:=dB hh hi
 split <;> lia
theorem Mm {gs hs:List Int} (hg:okG n gs) (l:LeG gs hs) (c:List Nat):LeG gs (lfF gs hs c):=by
 refine iC (by rw[jU]) fun i hi=>?_
 rw[m7 hi]
 have:=l i
 split <;> lia
theorem Ec (hb:bk.length=n) (ok:okB bk) (hf:okG n fl) {lo hi:List Int} (hlo:Low n fl bk lo) (hh:okG n hi) (l:LeG lo hi) (hup:∀ w,okG n w->LeG w (eX w fl bk)->LeG w hi) {c:List Nat} {m:Nat} (st:Stops (hdF bk lo) (lfF lo hi c) m):Fp n fl bk lo c (itF (hdF bk lo) (lfF lo hi c) m):=by
 obtain⟨h1,h2,h3⟩:=uY hb hlo.1 (vZ hlo.1 hh c) (Mm hlo.1 l c) m
 have fx:=st.1
 refine⟨⟨h1,fun i hi' hc=>?_,h2,?_⟩,fun w hw=>?_⟩
 ·have a:=h2 i
  have b:=h3 i
  rw[m7 (by rw[hlo.1.1]; exact hi'),if_neg hc] at b
  lia
 ·refine iC (by rw[h1.1,(fO hb ok hf _).1]) fun i hi'=>?_
  rw[h1.1] at hi'
  have e:=pG (bk:=bk) (lo:=lo) (g:=itF (hdF bk lo) (lfF lo hi c) m) (i:=i) (by lia)
  rw[fx] at e
  rw[jo hb hf _ hi']
  have a:=jo hb hf lo hi'
  rw[hlo.2.1] at a
  have b:=mF hb ok h2 hi'
  lia
 ·have hwl:LeG w (lfF lo hi c):=by
   refine iC (by rw[jU,hw.1.1,hlo.1.1]) fun i hi'=>?_
   rw[hw.1.1] at hi'
   rw[m7 (by rw[hlo.1.1]; exact hi')]
   split
   ·exact hup w hw.1 hw.2.2.2 i
   ·rename_i hc
    rw[hw.2.1 i hi' hc]
    exact RC _
  have key:∀ j,LeG w (itF (hdF bk lo) (lfF lo hi c) j):=by
   intro j
   induction j with
   | zero=>exact hwl
   | succ j ih=>exact wy hb ok hf hlo hw.1 hw.2.2.2 ih
  exact key m
end
abbrev jb:Stmt:=top 21
abbrev Dj:Stmt:=top 22
theorem tX:aW ["pledges","low","step","giving"] ["pledges","low","step","giving"] (aH jb):=⟨rfl,rfl,rfl,by decide+kernel,rfl,by decide+kernel,by decide+kernel⟩
theorem mZ:aW ["book","sure","giving","lesser"] ["book","sure","giving"] (aH Dj):=⟨rfl,rfl,rfl,by decide+kernel,rfl,by decide+kernel,by decide+kernel⟩
theorem jJ {α:Type} (u:α->Int) (st:Int):∀ (ps:List α) (a b:Int),min st b<=a->(ps.map fun p=>min st (u p)).foldl max a=max a (min st ((ps.map u).foldl max b))
 | [],a,b,h=>by
  show a=max a (min st b)
  lia
 | p::ps,a,b,h=>by
  rw[QM,QM,Rm,Rm,jJ u st ps (max a (min st (u p))) (max b (u p)) (by lia)]
  have:=(eV (ps.map u) (max b (u p))).1
  lia
inductive wK (K:Qu) (vs:List V) (H:Hp) (Q:VK):Prop where
 | mk (c g:Addr) (n:Nat) (as:List Addr) (ps:List Pl) (ns:List Int) (lo st:Int) (z0:vs=[.ref c,.int lo,.int st,.ref g]) (z1:H c=some (.lst (as.map V.ref))) (z2:as.length<=100) (z3:dI n H as ps) (z4:SqT K H g (ns.map V.int)) (z5:n<=ns.length) (z6:0<=lo) (z7:lo<=st) (z8:∀ H',aM H H'->Q (.int (max lo (min st (duF ns 0 ps)))) H'):wK K vs H Q
def zF (K:Qu):Sp:=fun vs H Q _=>wK K vs H Q
theorem rn {k:Nat} (F:Fun K "held_step" "held_step" jb f fd) (B:Bt mg)
  (D_owes:Df P w K mg base "owes" k ["pledge","giving"] (Ag K)):fj P w K mg base CX0 (k+1) f fd ["pledges","low","step","giving"] (zF K):=by
 refine F.ok tX (fun vs H Q E h=>?_) (fun cdv A outer s H vs Q E hr h=>?_)
 ·obtain⟨c,g,n,as,ps,ns,lo,st,rfl,_⟩:=h
  rfl
 ·obtain⟨c,g,n,as,ps,ns,lo,st,rfl,hc,l100,rps,hg,hn,h0,hls,q⟩:=h
  have ell:=rps.length
  refine⟨_,(aA (bZ (aV gO (pv 2) (pv 1) (bf _)) (aC (aK (pv 1))) aX)
 (aC (aK (aL (r:=Ge K) (nW rfl) rfl B.max_ xn (aa (aO zy (bK (aa (pv 1) aq)) (bA (L:=["pledge"]) (F:=["step","giving"]) (cap:=[2,3]) rfl (bj rfl rfl (by kernel_rfl)) (dX (pv 0)) (fun _ _ _ _ _=>(aG (i:=0) (aP (by decide+kernel)) rfl (Qm rfl))) (fun _ _ _ _ _=>bC) (fun _ _ _ _ _=>(aL (uv rfl) rfl B.min_ Gz (aa (pv 1) (aa (aY D_owes hr (aa (pv 0) (aa (pv 2) aq))) aq)))))) aq))))),?_⟩
  refine⟨_,rfl,_,rfl,rfl,_,rfl,?_⟩
  by_cases e:st=lo
  ·subst e
   rw[decide_eq_true rfl]
   refine jw ⟨_,rfl,?_⟩
   have:=q H (aM.refl _)
   rw[show max st (min st (duF ns 0 ps))=st by lia] at this
   exact this
  ·rw[decide_eq_false (fun z=>e (by cases z; rfl))]
   refine gG ?_
   refine⟨_,rfl,small (by show 1<=1000; decide),fun p4 h4=>?_⟩
   generalize eH4:upd H p4 _=H4
   obtain⟨g4,e4⟩:=aJ eH4 h4
   refine⟨_,rfl,c,rfl,⟨_,SqL.of (g4 _ _ hc)⟩,fun D2 hD2=>cJ (K:=K) (a:=c) (xs:=as.map V.ref) (fun j ws σ' H5=>(∃ u,σ'=[u,some (.int st),some (.ref g)])/\ws=((ps.take j).map fun p=>min st (owF ns p)).map V.int/\aM H4 H5/\H5 D2=some (.lst ws))
    ⟨⟨_,rfl⟩,rfl,au hD2 _,aj⟩ (fun j ws σ' H5 _ h=>⟨SqL.of (h.2.2.1 _ _ (g4 _ _ hc)),h.2.2.2⟩) ?_ ?_⟩
   ·rintro j ws x σ' H5 hx ⟨⟨u,rfl⟩,e5,s5,hD5⟩
    obtain⟨a,ha,rfl⟩:=Bk hx
    obtain⟨pl,hpl,rpl⟩:=rps.get ha
    refine gT ?_
    refine⟨_,rfl,_,rfl,_,rfl,a,g,n,pl,ns,rfl,rpl.mono (g4.trans s5),jE (g4.trans s5) hg,hn,fun H6 s6=>?_⟩
    refine⟨_,_,rfl,s6 _ _ hD5,?_,⟨_,rfl⟩,?_,aF (s5.trans s6) hD2 _,aj⟩
    ·rw[e5,Py,Py,Ql]
     exact aD (by lia)
    ·rw[e5,take_snoc (fun p=>min st (owF ns p)) hpl,PQ]
     congr 1
     show[V.int _]=[V.int _]
     congr 2
     split <;> lia
   ·rintro ws σ' H5 ⟨_,e5,s5,hD5⟩
    rw[Py,ell,Qk] at e5
    subst e5
    refine⟨p4,D2,_,_,rfl,rfl,s5 _ _ e4,hD5,small ?_,fun p6 h6=>?_⟩
    ·rw[Py,Py]
     show 1+ps.length<=1000
     lia
    generalize eH6:upd H5 p6 _=H6
    obtain⟨g6,e6⟩:=aJ eH6 h6
    refine⟨p6,lo::ps.map fun p=>min st (owF ns p),rfl,SqL.of e6,by simp,?_⟩
    have:=q H6 (g4.trans (s5.trans g6))
    rw[show max lo (min st (duF ns 0 ps))=mxD 0 (lo::ps.map fun p=>min st (owF ns p)) from (jJ (owF ns) st ps lo 0 (by lia)).symm] at this
    exact this
inductive Bx (vs:List V) (H:Hp) (Q:VK):Prop where
 | mk (b f g:Addr) (n:Nat) (bk:List (List Pl)) (lo x:List Int) (z0:vs=[.ref b,.ref f,.ref g]) (z1:ou n H b bk) (z2:bk.length=n) (z3:H f=some (.tup (lo.map V.int))) (z4:okG n lo) (z5:H g=some (.tup (x.map V.int))) (z6:okG n x) (z7:LeG lo x) (z8:∀ (m:Nat) (r:Addr) (H':Hp),Stops (hdF bk lo) x m->aM H H'->H' r=some (.tup ((itF (hdF bk lo) x m).map V.int))->Q (.ref r) H'):Bx  vs H Q
def G4:Sp:=fun vs H Q _=>Bx  vs H Q
def HW (bk:List (List Pl)) (lo x:List Int) (M:Nat) (b f:Addr) (H:Hp) (m:Nat) (σ:St) (H3:Hp):Prop:=∃ (t:Nat) (la:Addr) (gv:V),t+m=M+1/\σ=[some (.ref b),some (.ref f),some gv,some (.ref la)]/\aM H H3/\H3 la=some (.tup ((itF (hdF bk lo) x t).map V.int)) ∧
 ((t=0/\gv = .non)∨∃ (ga:Addr) (j:Nat),t=j+1/\gv = .ref ga/\H3 ga=some (.tup ((itF (hdF bk lo) x j).map V.int)))
theorem Ju {k:Nat} (F:Fun K "held" "held" Dj f fd) (B:Bt mg)
  (D_held_step:Df P w K mg base "held_step" k ["pledges","low","step","giving"] (zF K)):fj P w K mg base CX0 (k+1) f fd ["book","sure","giving"] G4:=by
 refine F.ok mZ (fun vs H Q E h=>?_) (fun cdv A outer s H vs Q E hr h=>?_)
 ·obtain⟨b,f,g,n,bk,lo,x,rfl,_⟩:=h
  rfl
 ·obtain⟨b,f,g,n,bk,lo,x,rfl,hB,lb,hf,ol,hg,ox,lx,q⟩:=h
  refine⟨_,(aA (aU (i:=3) mZ.nd rfl (Qm rfl) (pv 2))
 (aA (aU (i:=2) mZ.nd rfl (Wk rfl) KZ)
 (aA (qy Rt (aV (r:=Br K) (Fv hr.nu) (pv 3) (pv 2) (bf _)) (aA (aU (i:=2) mZ.nd rfl (Wk rfl) (pv 3))
 (aC (aU (i:=3) mZ.nd rfl (Qm rfl) (bG (r:=fC K) bB rfl B.tuple_ bQ (aa (bA (L:=["pledges","low","step"]) (F:=["giving"]) (cap:=[2]) rfl (bj rfl rfl (by kernel_rfl)) (M9 rfl B.zip_ (aa (pv 0) (aa (pv 1) (aa (pv 2) aq)))) (fun _ _ _ _ _=>(dU (K:=K) 3 rfl rfl (aZ (aG (i:=0) (aP (by decide+kernel)) rfl (Qm rfl)) (aZ (aG (i:=1) (aP (by decide+kernel)) rfl (Qm rfl)) (aZ (aG (i:=2) (aP (by decide+kernel)) rfl (Qm rfl)) d8))))) (fun _ _ _ _ _=>bC) (fun _ _ _ _ _=>(aY D_held_step hr (aa (pv 0) (aa (pv 1) (aa (pv 2) (aa (pv 3) aq))))))) aq))))))
 (aC (aK (pv 2)))))),?_⟩
  obtain⟨us0,hb,rb,l12⟩:=id hB
  have el:=rb.length
  obtain⟨M,hM,st⟩:=xR lb ol ox lx
  have io:=uY lb ol ox lx
  refine⟨_,rfl,?_⟩
  refine⟨HW bk lo x M b f H,⟨M+1,0,g,.non,by lia,rfl,aM.refl _,hg,.inl ⟨rfl,rfl⟩⟩,?_⟩
  rintro m σ H3 ⟨t,la,gv,htm,rfl,s3,ela,hgv⟩
  obtain⟨og,olow,_⟩:=io t
  have s3b:=s3 _ _ hb
  have s3f:=s3 _ _ hf
  have key:∀ Q':VK,(1<=m->Q' (.bl true) H3)->(∀ (ga:Addr),gv = .ref ga->H3 ga=some (.tup ((itF (hdF bk lo) x M).map V.int))->Q' (.bl false) H3)->Br K (.ref la) gv H3 Q':=fun Q' hT hF=>by
   rcases hgv with⟨ht,rfl⟩ | ⟨ga,j,ht,rfl,ega⟩
   ·exact .inr ⟨la,_,rfl,rfl,SqT.of ela,hT (by lia)⟩
   ·refine .inl ⟨la,ga,_,_,rfl,rfl,SqT.of ela,SqT.of ega,?_⟩
    subst ht
    by_cases e:itF (hdF bk lo) x (j+1)=itF (hdF bk lo) x j
    ·rw[decide_eq_true e]
     have ej:j=M:=by
      rcases Sh j M with z | z
      ·exact absurd e (st.2 j z)
      ·lia
     subst ej
     exact hF ga rfl ega
    ·rw[decide_eq_false e]
     refine hT ?_
     rcases Sh j M with z | z
     ·lia
     ·have:j=M:=by lia
      subst this
      exact absurd st.1 e
  refine⟨_,rfl,_,rfl,key _ (fun h1=>⟨_,rfl,jw ⟨HW bk lo x M b f H (m - 1),fun σ' H' h=>⟨m - 1,by lia,h⟩,?_⟩⟩) fun ga hga ega=>⟨_,rfl,gG ⟨_,rfl,?_⟩⟩⟩
  ·refine⟨_,rfl,_,rfl,_,rfl,_,rfl,b,f,la,_,_,_,rfl,SqL.of s3b,SqT.of s3f,SqT.of ela,fun D hD=>Jc (K:=K) (a:=b) (b:=f) (c:=la) (xs:=us0) (ys:=lo.map V.int) (vs:=(itF (hdF bk lo) x t).map V.int) (by rw[Py,ol.1]; lia) (by rw[Py,og.1]; lia)
    (fun i zs σ' H4=>(∃ u v w,σ'=[u,v,w,some (.ref la)])/\zs=((P0 i).map fun i=>max (lo.getD i 0) (min ((itF (hdF bk lo) x t).getD i 0) (duF (itF (hdF bk lo) x t) 0 (bk.getD i [])))).map V.int/\aM H3 H4/\H4 D=some (.lst zs))
    ⟨⟨_,_,_,rfl⟩,rfl,au hD _,aj⟩ (fun i zs σ' H4 _ h=>⟨SqL.of (h.2.2.1 _ _ s3b),SqT.of (h.2.2.1 _ _ s3f),SqT.of (h.2.2.1 _ _ ela),h.2.2.2⟩) ?_ ?_⟩
   ·rintro i zs y1 y2 y3 p σ' H4 hx hy hv hp ⟨⟨u,v,w,rfl⟩,e1,sm,hDl⟩
    obtain⟨c,as,ps,rfl,hps,hc,l100,rps⟩:=rb.get hx
    obtain⟨l1,hl1,rfl⟩:=int_at hy
    obtain⟨g1,hg1,rfl⟩:=int_at hv
    have hi:=(List.getElem?_eq_some_iff.mp hx).1
    have gl:lo.getD i 0=l1:=by rw[PL,hl1]; rfl
    have gg:(itF (hdF bk lo) x t).getD i 0=g1:=by rw[PL,hg1]; rfl
    have gb:bk.getD i []=ps:=by rw[PL,hps]; rfl
    have l01:=(dB ol (i:=i) (by lia)).1
    have llg:=olow i
    rw[gl] at l01
    rw[gl,gg] at llg
    generalize eH5:upd H4 p _=H5
    obtain⟨g5,e5⟩:=aJ eH5 hp
    have s5:=sm.trans g5
    refine⟨p,_,rfl,SqT.of e5,rfl,_,_,rfl,_,_,rfl,_,_,rfl,rfl,?_⟩
    refine tT ?_
    refine⟨_,rfl,_,rfl,_,rfl,_,rfl,c,la,n,as,ps,_,l1,g1,rfl,(s3.trans s5) _ _ hc,l100,rps.bu (fun a xs q=>(s3.trans s5) a _ q),SqT.of (s5 _ _ ela),by rw[og.1]; lia,l01,llg,fun H6 s6=>?_⟩
    refine⟨s6 _ _ (g5 _ _ hDl),?_,⟨_,_,_,rfl⟩,?_,aF (s5.trans s6) hD _,aj⟩
    ·rw[e1,Py,Py,Qs]
     exact aD (by lia)
    ·rw[e1,SM,PQ,PQ,gb.symm,← gl,← gg]
     rfl
   ·rintro zs σ' H4 ⟨_,e1,sm,hDl⟩
    refine⟨D,_,rfl,.inl ⟨SqL.of hDl,fun l hl'=>?_⟩⟩
    refine⟨t+1,l,.ref la,by lia,rfl,s3.trans (sm.trans (au hl' _)),?_,.inr ⟨la,t,rfl,rfl,au hl' _ _ _ (sm _ _ ela)⟩⟩
    rw[aj,e1,el]
    rfl
  ·subst hga
   exact q M ga H3 st s3 ega
section
variable {n:Nat} {fl lo:List Int} {bk:List (List Pl)}
theorem Am (hb:bk.length=n) (ok:okB bk) (hf:okG n fl) (hlo:Low n fl bk lo) {x:List Int} (hx:okG n x) (l:LeG lo x) {c:List Nat} (hc:∀ i < n,i ∉ c->x.getD i 0=lo.getD i 0) (hup:∀ w,InS n fl bk lo c w->LeG w x) {m:Nat} (st:Stops (hdF bk lo) x m):Fp n fl bk lo c (itF (hdF bk lo) x m):=by
 obtain⟨h1,h2,h3⟩:=uY hb hlo.1 hx l m
 have fx:=st.1
 refine⟨⟨h1,fun i hi' hci=>?_,h2,?_⟩,fun w hw=>?_⟩
 ·have a:=h2 i
  have b:=h3 i
  rw[hc i hi' hci] at b
  lia
 ·refine iC (by rw[h1.1,(fO hb ok hf _).1]) fun i hi'=>?_
  rw[h1.1] at hi'
  have e:=pG (bk:=bk) (lo:=lo) (g:=itF (hdF bk lo) x m) (i:=i) (by lia)
  rw[fx] at e
  rw[jo hb hf _ hi']
  have a:=jo hb hf lo hi'
  rw[hlo.2.1] at a
  have b:=mF hb ok h2 hi'
  lia
 ·have:∀ j,LeG w (itF (hdF bk lo) x j):=by
   intro j
   induction j with
   | zero=>exact hup w hw
   | succ j ih=>exact wy hb ok hf hlo hw.1 hw.2.2.2 ih
  exact this m
theorem Mt (hb:bk.length=n) (ok:okB bk) (hf:okG n fl) (hlo:Low n fl bk lo) (c:List Nat):∃ g,Fp n fl bk lo c g:=by
 have o9:okG n (Qh n (9:Int)):=⟨Rj,fun x hx=>by rw[(List.mem_replicate.mp hx).2]; decide⟩
 have r9:∀ i < n,(Qh n (9:Int)).getD i 0=9:=fun i hi=>by rw[PL,T9,if_pos hi]; rfl
 have up9:∀ w:List Int,okG n w->LeG w (Qh n (9:Int)):=fun w hw=>oH hw.1 o9.1 fun i hi=>by
  rw[r9 i hi]
  exact (dB hw hi).2
 have l:=up9 lo hlo.1
 obtain⟨m,_,st⟩:=xR hb hlo.1 (vZ hlo.1 o9 c) (Mm hlo.1 l c)
 exact⟨_,Ec hb ok hf hlo o9 l (fun w hw _=>up9 w hw) st⟩
open Classical in
def al (n:Nat) (fl:List Int) (bk:List (List Pl)) (lo:List Int) (c:List Nat):List Int:=if h:∃ g,Fp n fl bk lo c g then h.choose else lo
theorem dJ (hb:bk.length=n) (ok:okB bk) (hf:okG n fl) (hlo:Low n fl bk lo) (c:List Nat):Fp n fl bk lo c (al n fl bk lo c):=by
 have h:=Mt hb ok hf hlo c
 unfold al
 rw[dif_pos h]
 exact h.choose_spec
theorem Jr (hb:bk.length=n) (ok:okB bk) (hf:okG n fl) (hlo:Low n fl bk lo) {c:List Nat} {g:List Int} (h:Fp n fl bk lo c g):g=al n fl bk lo c:=h.uniq (dJ hb ok hf hlo c)
theorem InS.mono {c d:List Nat} {g:List Int} (h:InS n fl bk lo c g) (s:∀ i < n,i∈c->i∈d):InS n fl bk lo d g:=⟨h.1,fun i hi hd=>h.2.1 i hi fun z=>hd (s i hi z),h.2.2⟩
theorem uX (hb:bk.length=n) (ok:okB bk) (hf:okG n fl) (hlo:Low n fl bk lo) {c d:List Nat} (s:∀ i < n,i∈c->i∈d):LeG (al n fl bk lo c) (al n fl bk lo d):=(dJ hb ok hf hlo d).2 _ ((dJ hb ok hf hlo c).1.mono s)
theorem iu (hb:bk.length=n) (ok:okB bk) (hf:okG n fl) (hlo:Low n fl bk lo) (c:List Nat):(al n fl bk lo c).length=n:=(dJ hb ok hf hlo c).1.1.1
def ris (n:Nat) (lo g:List Int):List Nat:=(P0 n).filter fun i=>decide (lo.getD i 0 < g.getD i 0)
theorem gm {g:List Int} {i:Nat}:i∈ris n lo g ↔ i < n/\lo.getD i 0 < g.getD i 0:=by
 unfold ris
 rw[VH,List.mem_range]
 simp
theorem uI {c:List Nat} {g:List Int} (h:InS n fl bk lo c g) {i:Nat} (hi:i∈ris n lo g):i∈c:=by
 obtain⟨h1,h2⟩:=gm.mp hi
 refine U5 fun z=>?_
 have:=h.2.1 i h1 z
 lia
theorem JR {c:List Nat} {g:List Int} (h:InS n fl bk lo c g):InS n fl bk lo (ris n lo g) g:=by
 refine⟨h.1,fun i hi hn=>?_,h.2.2⟩
 have a:=h.2.2.1 i
 have b:¬ lo.getD i 0 < g.getD i 0:=fun z=>hn (gm.mpr ⟨hi,z⟩)
 lia
theorem Bm (hb:bk.length=n) (ok:okB bk) (hf:okG n fl) (hlo:Low n fl bk lo) (c:List Nat):al n fl bk lo (ris n lo (al n fl bk lo c))=al n fl bk lo c:=by
 have m:=dJ hb ok hf hlo c
 refine fJ (by rw[iu hb ok hf hlo,iu hb ok hf hlo]) (uX hb ok hf hlo fun i hi=>uI m.1) ?_
 exact (dJ hb ok hf hlo _).2 _ (JR m.1)
theorem Ia (hb:bk.length=n) (ok:okB bk) (hf:okG n fl) (hlo:Low n fl bk lo) {c:List Nat} (h:ris n lo (al n fl bk lo c)=[]):al n fl bk lo c=lo:=by
 have m:=dJ hb ok hf hlo c
 refine fJ (by rw[iu hb ok hf hlo,hlo.1.1]) (oH (iu hb ok hf hlo c) hlo.1.1 fun i hi=>?_) m.1.2.2.1
 have:i ∉ ris n lo (al n fl bk lo c):=by rw[h]; simp
 have h':¬ lo.getD i 0 < (al n fl bk lo c).getD i 0:=fun z=>this (gm.mpr ⟨hi,z⟩)
 lia
theorem Gx:ris n lo lo=[]:=by
 unfold ris
 rw[List.filter_eq_nil_iff]
 intro i _
 simp
theorem mH {g:List Int} {one:Nat} (hg:g.length=n) (hl:lo.length=n):ris n lo (lfF g lo [one])=(ris n lo g).filter fun i=>decide (i≠one):=by
 unfold ris
 rw[List.filter_filter]
 refine Wg fun i hi=>?_
 have hi':=List.mem_range.mp hi
 rw[m7 (by rw[hg]; exact hi')]
 by_cases e:i=one
 ·subst e
  simp
 ·simp [e]
theorem vO (hb:bk.length=n) (ok:okB bk) (hf:okG n fl) (hlo:Low n fl bk lo) {c:List Nat} (hcl:ris n lo (al n fl bk lo c)=c) {one:Nat} {m:Nat} (st:Stops (hdF bk lo) (lfF (al n fl bk lo c) lo [one]) m) :
  itF (hdF bk lo) (lfF (al n fl bk lo c) lo [one]) m=al n fl bk lo (c.filter fun i=>decide (i≠one)):=by
 have mx:=dJ hb ok hf hlo c
 have lg:=iu hb ok hf hlo c
 have ox:okG n (lfF (al n fl bk lo c) lo [one]):=vZ mx.1.1 hlo.1 [one]
 have at1:∀ i < n,(lfF (al n fl bk lo c) lo [one]).getD i 0=if i∈[one] then lo.getD i 0 else (al n fl bk lo c).getD i 0:=fun i hi=>m7 (by rw[lg]; exact hi)
 have lx:LeG lo (lfF (al n fl bk lo c) lo [one]):=oH hlo.1.1 ox.1 fun i hi=>by
  rw[at1 i hi]
  split
  ·exact RC _
  ·exact mx.1.2.2.1 i
 refine Jr hb ok hf hlo (Am hb ok hf hlo ox lx (fun i hi hn=>?_) (fun w hw=>?_) st)
 ·rw[at1 i hi]
  split
  ·rfl
  ·rename_i hne
   have:i ∉ c:=fun z=>hn (List.mem_filter.mpr ⟨z,decide_eq_true fun q=>hne (by rw[q]; exact List.mem_singleton.mpr rfl)⟩)
   exact mx.1.2.1 i hi this
 ·refine oH hw.1.1 ox.1 fun i hi=>?_
  rw[at1 i hi]
  split
  ·rename_i he
   rw[hw.2.1 i hi (fun z=>by
    have:=(List.mem_filter.mp z).2
    rw[List.mem_singleton.mp he] at this
    simp at this)]
   exact RC _
  ·exact (mx.2 w (hw.mono fun i _ z=>(List.mem_filter.mp z).1)) i
def Knot (n:Nat) (fl:List Int) (bk:List (List Pl)) (lo:List Int) (c:List Nat):Prop:=al n fl bk lo c≠lo/\∀ one∈c,al n fl bk lo (c.filter fun i=>decide (i≠one))=lo
theorem v7 (hb:bk.length=n) (ok:okB bk) (hf:okG n fl) (hlo:Low n fl bk lo) {c:List Nat} (hk:Knot n fl bk lo c) {i:Nat} (hi:i∈c):i∈ris n lo (al n fl bk lo c):=by
 refine U5 fun z=>hk.1 ?_
 rw[← Bm hb ok hf hlo c]
 have le:LeG (al n fl bk lo (ris n lo (al n fl bk lo c))) lo:=by
  have h0:LeG (al n fl bk lo (ris n lo (al n fl bk lo c))) (al n fl bk lo (c.filter fun j=>decide (j≠i))):=uX hb ok hf hlo fun j hj hr=>List.mem_filter.mpr ⟨uI (dJ hb ok hf hlo c).1 hr,decide_eq_true (p:=j≠i) fun q=>z (q▸hr)⟩
  rw[hk.2 i hi] at h0
  exact h0
 exact fJ (by rw[iu hb ok hf hlo,hlo.1.1]) le (dJ hb ok hf hlo _).1.2.2.1
end
theorem j4 {p:Nat->Bool} (i:Nat):(P0 (i+1)).filter p=(P0 i).filter p++if p i=true then [i] else []:=by
 rw[SM,Wa,Sx,List.filter_nil]
theorem eE (p:Nat->Bool):∀ n,(P0 n).filter p∈cO n
 | 0=>List.mem_singleton.mpr rfl
 | n+1=>by
  rw[j4]
  have ih:=eE p n
  show _∈cO n++(cO n).map fun c=>c++[n]
  by_cases e:p n=true
  ·rw[if_pos e]
   exact List.mem_append.mpr (.inr (List.mem_map.mpr ⟨_,ih,rfl⟩))
  ·rw[if_neg e,SN]
   exact List.mem_append.mpr (.inl ih)
theorem dY:∀ n,(cO n).length=2 ^ n
 | 0=>rfl
 | n+1=>by
  show (cO n++(cO n).map fun c=>c++[n]).length=_
  rw[Qj,Py,dY n,Nat.pow_succ]
  lia
theorem cW {α:Type} [DecidableEq α]:∀ {l m:List α},l.Nodup->(∀ a∈l,a∈m)->l.length<=m.length
 | [],_,_,_=>QB _
 | a::l,m,nd,h=>by
  have ha:=h a Qa
  obtain⟨na,nl⟩:=List.nodup_cons.mp nd
  have:=cW (m:=m.erase a) nl fun b hb=>(W0 fun z=>na (by rw[← z]; exact hb)).mpr (h b (Qg _ hb))
  rw[Wl ha] at this
  have:0 < m.length:=List.length_pos_of_mem ha
  rw[Qo]
  lia
theorem dq {n:Nat} {c:List Nat} (hr:c.Pairwise (· < ·)) (hn:∀ i∈c,i < n):(P0 n).filter (fun i=>decide (i∈c))=c:=by
 have s1:((P0 n).filter fun i=>decide (i∈c)).Pairwise (· < ·):=List.pairwise_lt_range.filter _
 have m:∀ i,i∈(P0 n).filter (fun i=>decide (i∈c)) ↔ i∈c:=fun i=>by
  rw[VH,List.mem_range]
  simp
  exact hn i
 generalize (P0 n).filter (fun i=>decide (i∈c))=d at *
 clear hn
 induction d generalizing c with
 | nil =>
  cases c with
  | nil=>rfl
  | cons x c=>exact absurd ((m x).mpr Qa) (by simp)
 | cons y d ih =>
  cases c with
  | nil=>exact absurd ((m y).mp Qa) (by simp)
  | cons x c =>
   rw[R7] at s1 hr
   have hxy:y=x:=by
    rcases List.mem_cons.mp ((m y).mp Qa) with h | h
    ·exact h
    ·rcases List.mem_cons.mp ((m x).mpr Qa) with h' | h'
     ·exact h'.symm
     ·have:=hr.1 y h
      have:=s1.1 x h'
      lia
   subst hxy
   refine congrArg _ (ih hr.2 s1.2 fun i=>⟨fun h=>?_,fun h=>?_⟩)
   ·rcases List.mem_cons.mp ((m i).mp (Qg _ h)) with z | z
    ·have:=s1.1 i h
     lia
    ·exact z
   ·rcases List.mem_cons.mp ((m i).mpr (Qg _ h)) with z | z
    ·have:=hr.1 i h
     lia
    ·exact z
section
variable {n:Nat} {fl lo:List Int} {bk:List (List Pl)}
theorem jT (g:List Int):(ris n lo g).Pairwise (· < ·):=List.pairwise_lt_range.filter _
theorem yC (hb:bk.length=n) (ok:okB bk) (hf:okG n fl) (hlo:Low n fl bk lo) {S:List (List Nat)} (cl:∀ c∈S,ris n lo (al n fl bk lo c)=c) {W:List Nat} (hW:W∈S) (top:∀ c:List Nat,∀ i∈ris n lo (al n fl bk lo c),i∈W)
  (step:∀ c∈S,c≠[]->∀ one∈c,ris n lo (al n fl bk lo (c.filter fun i=>decide (i≠one)))∈S) {k:List Nat} (hr:k.Pairwise (· < ·)) (hn:∀ i∈k,i < n) (hk:Knot n fl bk lo k):k∈S:=by
 have main:∀ (m:Nat) (c:List Nat),c.length<=m->c∈S->(∀ i∈k,i∈c)->k∈S:=by
  intro m
  induction m with
  | zero =>
   intro c hl hc hs
   have:c=[]:=List.length_eq_zero_iff.mp (by lia)
   subst this
   have:k=[]:=by
    cases k with
    | nil=>rfl
    | cons x _=>exact absurd (hs x Qa) (by simp)
   rw[this]
   exact hc
  | succ m ih =>
   intro c hl hc hs
   by_cases e:∀ i∈c,i∈k
   ·have hcr:c.Pairwise (· < ·):=by rw[← cl c hc]; exact jT _
    have hcn:∀ i∈c,i < n:=fun i hi=>by rw[← cl c hc] at hi; exact (gm.mp hi).1
    have:k=c:=by
     rw[← dq hr hn,← dq hcr hcn]
     refine Wg fun i _=>decide_eq_decide.mpr ⟨fun h=>?_,fun h=>?_⟩
     ·exact hs i (by simpa using h)
     ·exact e i (by simpa using h)
    rw[this]
    exact hc
   ·have ⟨one,h1,h2⟩:∃ one,one∈c/\one ∉ k:=by
     refine U5 fun z=>e fun i hi=>U5 fun q=>z ⟨i,hi,q⟩
    have c0:c≠[]:=fun z=>by rw[z] at h1; cases h1
    have mem:=step c hc c0 one h1
    have sub:∀ i∈ris n lo (al n fl bk lo (c.filter fun i=>decide (i≠one))),i∈c.filter fun i=>decide (i≠one):=fun i hi=>uI (dJ hb ok hf hlo _).1 hi
    have ndr:(ris n lo (al n fl bk lo (c.filter fun i=>decide (i≠one)))).Nodup:=(jT _).imp fun h=>Qv h
    have l1:=cW ndr sub
    have l2:(c.filter fun i=>decide (i≠one)).length < c.length:=by
     rw[List.length_filter_lt_length_iff_exists]
     exact⟨one,h1,by simp⟩
    refine ih _ (by lia) mem fun i hi=>?_
    have a:=v7 hb ok hf hlo hk hi
    obtain⟨a1,a2⟩:=gm.mp a
    have b:=uX hb ok hf hlo (c:=k) (d:=c.filter fun i=>decide (i≠one)) (fun j _ hj=>List.mem_filter.mpr ⟨hs j hj,decide_eq_true fun q=>h2 (q▸hj)⟩) i
    exact gm.mpr ⟨a1,by lia⟩
 refine main W.length W (PX _) hW fun i hi=>top k i (v7 hb ok hf hlo hk hi)
end
abbrev qF:Stmt:=top 23
theorem Be:aW ["sure","giving"] ["sure","giving"] (aH qF):=⟨rfl,rfl,rfl,by decide+kernel,rfl,by decide+kernel,by decide+kernel⟩
inductive rP (vs:List V) (H:Hp) (Q:VK):Prop where
 | mk (f g:Addr) (n:Nat) (lo x:List Int) (z0:vs=[.ref f,.ref g]) (z1:n<=12) (z2:H f=some (.tup (lo.map V.int))) (z3:okG n lo) (z4:H g=some (.tup (x.map V.int))) (z5:okG n x) (z6:∀ (r:Addr) (H':Hp),aM H H'->H' r=some (.tup ((ris n lo x).map vN))->Q (.ref r) H'):rP  vs H Q
def pW:Sp:=fun vs H Q _=>rP  vs H Q
theorem CG (F:Fun K "risers" "risers" qF f fd) (B:Bt mg) :
  fj P w K mg base CX0 1 f fd ["sure","giving"] pW:=by
 refine F.ok Be (fun vs H Q E h=>?_) (fun cdv A outer s H vs Q E hr h=>?_)
 ·obtain⟨f,g,n,lo,x,rfl,_⟩:=h
  rfl
 ·obtain⟨f,g,n,lo,y,rfl,b12,hf,ol,hg,oy,q⟩:=h
  refine⟨_,(aC (aK (bG (r:=fC K) bB rfl B.tuple_ bQ (aa (bA (L:=["one","step"]) (F:=["sure"]) (cap:=[0]) rfl (bj rfl rfl (by kernel_rfl)) (pN rfl B.enumerate_ (aa (pv 1) aq)) (fun _ _ _ _ _=>(dU (K:=K) 2 rfl rfl (aZ (aG (i:=0) (aP (by decide+kernel)) rfl (Qm rfl)) (aZ (aG (i:=1) (aP (by decide+kernel)) rfl (Qm rfl)) d8)))) (fun _ _ _ _ _=>(vR (aV vH (pv 1) (bh (r:=jP K) bW (pv 2) (pv 0) (fun _ _=>rfl)) (bf _)))) (fun _ _ _ _ _=>(pv 0))) aq)))),?_⟩
  refine⟨_,rfl,g,_,rfl,SqT.of hg,fun D hD=>kJ (K:=K) (a:=g) (xs:=y.map V.int) (fun i zs σ' H3=>(∃ u v,σ'=[u,v,some (.ref f)])/\aM H H3/\H3 D=some (.lst zs)/\zs=((P0 i).filter fun j=>decide (lo.getD j 0 < y.getD j 0)).map vN)
   ⟨⟨_,_,rfl⟩,au hD _,aj,rfl⟩ (fun i zs σ' H3 _ h=>⟨SqT.of (h.2.1 _ _ hg),h.2.2.1⟩) ?_ ?_⟩
  ·rintro i zs x p σ' H3 hx hp ⟨⟨u,v,rfl⟩,sm,eD,ez⟩
   obtain⟨y1,hy1,rfl⟩:=int_at hx
   have hin:=(List.getElem?_eq_some_iff.mp hy1).1
   generalize eH4:upd H3 p _=H4
   obtain⟨g4,e4⟩:=aJ eH4 hp
   have s4:=sm.trans g4
   refine⟨p,_,rfl,SqT.of e4,rfl,_,_,rfl,_,_,rfl,rfl,?_⟩
   have hih:i < lo.length:=by rw[ol.1,← oy.1]; exact hin
   have gy:y.getD i 0=y1:=by rw[PL,hy1]; rfl
   have gi:lo.getD i 0=lo[i]:=by rw[PL,PJ hih]; rfl
   have lz:zs.length<=i:=by
    rw[ez,Py]
    exact Q6 (Tg _ _) (by rw[Qs]; exact PX _)
   have l12:i<=12:=by have:=oy.1; lia
   refine⟨_,rfl,_,rfl,_,rfl,f,_,_,_,rfl,rfl,SqT.of (s4 _ _ hf),o6 hih,_,_,rfl,rfl,_,rfl,?_⟩
   by_cases c1:y1 > lo[i]
   ·rw[decide_eq_true c1]
    refine jw ⟨_,rfl,g4 _ _ eD,aD (by lia),⟨_,_,rfl⟩,aF s4 hD _,aj,?_⟩
    rw[j4,if_pos (by rw[gy,gi]; exact decide_eq_true c1),PQ,← ez]
    rfl
   ·rw[decide_eq_false c1]
    refine gG ⟨⟨_,_,rfl⟩,s4,g4 _ _ eD,?_⟩
    rw[j4,if_neg (by rw[gy,gi]; simp only[decide_eq_true_eq]; exact c1),SN]
    exact ez
  ·rintro zs σ' H3 ⟨_,sm,eD,rfl⟩
   refine⟨D,_,rfl,.inl ⟨SqL.of eD,fun l hl'=>?_⟩⟩
   refine q l _ (sm.trans (au hl' _)) ?_
   rw[aj,Py,oy.1]
   rfl
def kc (c:List Nat):List Key:=c.map fun i:Nat=>(Wx (i:Int):Key)
theorem Nz (c:List Nat):(kc c).map kV=c.map vN:=by
 unfold kc
 rw[RQ]
 rfl
theorem Lx {c d:List Nat} (h:kc c=kc d):c=d:=by
 unfold kc at h
 exact (Xf fun a b e=>by
  have:(a:Int)=(b:Int):=Sum.inl.inj e
  lia).mp h
def ux (n:Nat) (fl:List Int) (bk:List (List Pl)) (lo:List Int) (H:Hp) (kvs:List (List Key × V)):Prop :=
 (kvs.map (·.1)).Nodup/\∀ p∈kvs,∃ (c:List Nat) (a:Addr),c∈cO n/\p.1=kc c/\p.2 = .ref a/\H a=some (.tup ((al n fl bk lo c).map V.int))
section
variable {n:Nat} {fl lo:List Int} {bk:List (List Pl)} {H H':Hp} {kvs:List (List Key × V)}
theorem ux.bu (h:ux n fl bk lo H kvs) (e:∀ a xs,H a=some (HO.tup xs)->H' a=some (HO.tup xs)):ux n fl bk lo H' kvs :=
 ⟨h.1,fun p hp=>by
  obtain⟨c,a,h1,h2,h3,h4⟩:=h.2 p hp
  exact⟨c,a,h1,h2,h3,e _ _ h4⟩⟩
theorem ux.len (h:ux n fl bk lo H kvs):kvs.length<=2 ^ n:=by
 have:=cW (m:=(cO n).map kc) h.1 fun k hk=>by
  obtain⟨p,hp,rfl⟩:=List.mem_map.mp hk
  obtain⟨c,a,h1,h2,_⟩:=h.2 p hp
  rw[h2]
  exact List.mem_map.mpr ⟨c,h1,rfl⟩
 rw[Py,Py,dY] at this
 exact this
theorem ux.get (h:ux n fl bk lo H kvs) {c:List Nat} {v:V} (e:iR kvs (kc c)=some v):∃ a,v = .ref a/\H a=some (.tup ((al n fl bk lo c).map V.int)):=by
 unfold iR at e
 obtain⟨p,hp,rfl⟩:=Option.map_eq_some_iff.mp e
 obtain⟨c',a,_,h2,h3,h4⟩:=h.2 p (List.mem_of_find?_eq_some hp)
 have k1:p.1=kc c:=by simpa using List.find?_some hp
 have:c'=c:=Lx (by rw[← h2,k1])
 subst this
 exact⟨a,h3,h4⟩
theorem ux.put (h:ux n fl bk lo H kvs) {c:List Nat} (hc:c∈cO n) {a:Addr} (ha:H a=some (.tup ((al n fl bk lo c).map V.int))) (e:iR kvs (kc c)=none):ux n fl bk lo H (putK kvs (kc c) (.ref a)):=by
 rw[lX _ e]
 refine⟨?_,fun p hp=>?_⟩
 ·rw[PQ]
  show (_++[kc c]).Nodup
  refine List.nodup_append.mpr ⟨h.1,by simp,fun x hx y hy=>?_⟩
  rw[List.mem_singleton.mp hy]
  obtain⟨p,hp,rfl⟩:=List.mem_map.mp hx
  intro z
  unfold iR at e
  have:=List.find?_eq_none.mp (Option.map_eq_none_iff.mp e) p hp
  exact this (decide_eq_true z)
 ·rcases List.mem_append.mp hp with z | z
  ·exact h.2 p z
  ·rw[List.mem_singleton.mp z]
   exact⟨c,a,hc,rfl,rfl,ha⟩
end
theorem nD {H:Hp} {D:Addr} {k:List (List Key × V)} {o:HO} (h:H D=some (.dT k)):∀ a xs,H a=some (HO.tup xs)->upd H D o a=some (HO.tup xs):=fun a xs q=>by
 rw[bx (fun z=>by rw[z,h] at q; cases q)]
 exact q
abbrev nF:Stmt:=top 24
theorem gB:aW ["book","sure","giving","known","rows","one","start","crowd"] ["book","sure","giving","known"] (aH nF):=⟨rfl,rfl,rfl,by decide+kernel,rfl,by decide+kernel,by decide+kernel⟩
def wo (c:List Nat) (one:Nat):List Nat:=c.filter fun i=>decide (i≠one)
inductive tH (vs:List V) (H:Hp) (Q:VK):Prop where
 | mk (b f g d:Addr) (n:Nat) (bk:List (List Pl)) (fl lo:List Int) (c:List Nat) (kvs:List (List Key × V)) (H0:Hp) (z0:vs=[.ref b,.ref f,.ref g,.ref d]) (z1:n<=12) (z2:aM H0 H) (z3:H0 d=none) (z4:ou n H0 b bk) (z5:bk.length=n) (z6:okG n fl) (z7:H0 f=some (.tup (lo.map V.int))) (z8:Low n fl bk lo) (z9:H g=some (.tup ((al n fl bk lo c).map V.int))) (z10:ris n lo (al n fl bk lo c)=c) (z11:H d=some (.dT kvs)) (z12:ux n fl bk lo H kvs) (z13:∀ (r:Addr) (us:List V) (kvs':List (List Key × V)) (H':Hp),aM H0 H'->(∀ a o,a≠d->H a=some o->H' a=some o)->H r=none->H' r=some (.lst us)->fD H' us (c.map fun one=>al n fl bk lo (wo c one))->H' d=some (.dT kvs')->ux n fl bk lo H' kvs'->Q (.ref r) H'):tH  vs H Q
def xP:Sp:=fun vs H Q _=>tH  vs H Q
theorem yW {k:Nat} (F:Fun K "put_off" "put_off" nF f fd) (B:Bt mg)
  (D_risers:Df P w K mg base "risers" 1 ["sure","giving"] pW) (D_lifted:Df P w K mg base "lifted" 1 ["giving","high","crowd"] Gp) (D_held:Df P w K mg base "held" (k+1) ["book","sure","giving"] G4) :
  fj P w K mg base CX0 (k+2) f fd ["book","sure","giving","known"] xP:=by
 refine F.ok gB (fun vs H Q E h=>?_) (fun cdv A outer s H vs Q E hr h=>?_)
 ·obtain⟨b,f,g,d,n,bk,fl,lo,c,kvs,H0,rfl,_⟩:=h
  rfl
 ·obtain⟨b,f,g,d,n,bk,fl,lo,c,kvs0,H0,rfl,n12,s0,d0,hB,lb,of,hf,low,hg,hcl,hd,kn,q⟩:=h
  refine⟨_,(aA (aU (i:=4) gB.nd rfl (Qm rfl) (bK aq))
 (aA (gK Rt rfl (iU (aY D_risers hr (aa (pv 1) (aa (pv 2) aq)))) (aG (i:=5) gB.nd rfl (Qm rfl)) (aA (aU (i:=6) gB.nd rfl (Qm rfl) (aY D_lifted hr (aa (pv 2) (aa (pv 1) (aa (bK (aa (pv 5) aq)) aq)))))
 (aA (aU (i:=7) gB.nd rfl (Qm rfl) (aY D_risers hr (aa (pv 1) (aa (pv 6) aq))))
 (aA (bZ (BV (tY hr.um (pv 7) (pv 3))) (aC (CV hr.um (pv 3) (pv 7) (aY D_held hr (aa (pv 0) (aa (pv 1) (aa (pv 6) aq)))) rfl)) aX)
 (aC (gf (j8 QH Rq Rp cP (pv 4) (aa (Jj hr.um (pv 3) (pv 7) (fun _ _=>rfl)) aq))))))))
 (aC (aK (pv 4))))),?_⟩
  have okb:=hB.okB
  have oc:okG n (al n fl bk lo c):=(dJ lb okb of low c).1.1
  have p12:2 ^ n<=4096:=by
   have:2 ^ n<=2 ^ 12:=Vy (by decide) n12
   simpa using this
  have cn:∀ i∈c,i < n:=fun i hi=>by rw[← hcl] at hi; exact (gm.mp hi).1
  have c12:c.length<=12:=by
   rw[← hcl]
   exact Q6 (Tg _ _) (by rw[Qs]; exact n12)
  refine⟨small (by show 0<=1000; decide),fun R hR=>?_⟩
  generalize eHa:upd H R _=Ha
  obtain⟨ga,ea⟩:=aJ eHa hR
  have nRd:R≠d:=fun z=>by rw[z,hd] at hR; cases hR
  refine⟨_,rfl,_,rfl,f,g,n,lo,_,rfl,n12,(s0.trans ga) _ _ hf,low.1,ga _ _ hg,oc,fun ra H1 s1 era=>?_⟩
  rw[hcl] at era
  have sa1:=ga.trans s1
  have s01:=s0.trans sa1
  have R0:H0 R=none:=s0.free hR
  refine⟨ra,rfl,⟨_,SqT.of era⟩,uK (K:=K) (a:=ra) (xs:=c.map vN) (fun i σ Hx=>∃ (us:List V) (kvs:List (List Key × V)) (u5 u6 u7:Option V),σ=[some (.ref b),some (.ref f),some (.ref g),some (.ref d),some (.ref R),u5,u6,u7]/\aM H0 Hx/\(∀ a o,a≠d->a≠R->H1 a=some o->Hx a=some o)/\Hx R=some (.lst us)/\Hx d=some (.dT kvs)/\ux n fl bk lo Hx kvs/\fD Hx us ((c.take i).map fun one=>al n fl bk lo (wo c one)))
   ⟨[],kvs0,_,_,_,rfl,s01,fun a o _ _ e=>e,s1 _ _ ea,sa1 _ _ hd,kn.bu fun a xs e=>sa1 _ _ e,by rw[Ry]; exact .nil⟩ (fun i σ Hx _ h=>?_) ?_ ?_⟩
  ·obtain⟨_,_,_,_,_,_,_,kb,_⟩:=h
   exact SqT.of (kb _ _ (fun z=>by have:=sa1 _ _ hd; rw[← z,era] at this; cases this) (fun z=>by have:=s1 _ _ ea; rw[← z,era] at this; cases this) era)
  ·rintro i x σ Hx hx ⟨us,kvs,u5,u6,u7,rfl,sx,kb,eR,ed,kx,gx⟩
   obtain⟨one,hone,rfl⟩:=sJ hx
   have onen:=cn one (Qy hone)
   refine gN ?_
   have gxH:Hx g=some (.tup ((al n fl bk lo c).map V.int)):=kb _ _ (fun z=>by rw[z,hd] at hg; cases hg) (fun z=>by rw[z,hR] at hg; cases hg) (sa1 _ _ hg)
   have lus:=gx.length
   rw[Py,Ql] at lus
   have ox:=vZ oc low.1 [one]
   refine bw (fun σ Hc=>∃ a4:Addr,σ=[some (.ref b),some (.ref f),some (.ref g),some (.ref d),some (.ref R),some (vN one),some (.ref a4),u7]/\aM Hx Hc/\Hc a4=some (.tup ((lfF (al n fl bk lo c) lo [one]).map V.int))) ?qs ?ts
   case ts =>
    intro N Rc
    refine⟨_,rfl,_,rfl,_,rfl,small (by show 1<=1000; decide),fun p3 h3=>?_⟩
    generalize eHb:upd Hx p3 _=Hb
    obtain⟨gb,eb⟩:=aJ eHb h3
    exact⟨g,f,p3,_,lo,[one],rfl,gb _ _ gxH,(sx.trans gb) _ _ hf,eb,by rw[oc.1,low.1.1],by rw[oc.1]; lia,fun a4 Hc sc e4=>Rc _ _ ⟨a4,rfl,gb.trans sc,e4⟩⟩
   case qs =>
   rintro σ Hc ⟨a4,rfl,sxc,e4⟩
   refine bw (fun σ Hd=>∃ a5:Addr,σ=[some (.ref b),some (.ref f),some (.ref g),some (.ref d),some (.ref R),some (vN one),some (.ref a4),some (.ref a5)]/\aM Hc Hd/\Hd a5=some (.tup ((wo c one).map vN))) ?qc ?tc
   case tc =>
    intro N Rc
    refine⟨_,rfl,_,rfl,f,a4,n,lo,_,rfl,n12,(sx.trans sxc) _ _ hf,low.1,e4,ox,fun a5 Hd sd e5=>?_⟩
    rw[mH oc.1 low.1.1,hcl] at e5
    exact Rc _ _ ⟨a5,rfl,sd,e5⟩
   case qc =>
   rintro σ Hd ⟨a5,rfl,sd,e5⟩
   have sxd:=sxc.trans sd
   have hcr:wo c one∈cO n:=by
    have:=eE (fun i=>decide (lo.getD i 0 < (lfF (al n fl bk lo c) lo [one]).getD i 0)) n
    have e:ris n lo (lfF (al n fl bk lo c) lo [one])=wo c one:=by rw[mH oc.1 low.1.1,hcl]; rfl
    rw[← e]
    exact this
   have e5k:Hd a5=some (.tup ((kc (wo c one)).map kV)):=by rw[Nz]; exact e5
   refine bw (fun σ He=>∃ (kvs:List (List Key × V)) (ao:Addr),σ=[some (.ref b),some (.ref f),some (.ref g),some (.ref d),some (.ref R),some (vN one),some (.ref a4),some (.ref a5)]/\aM H0 He/\(∀ a o,a≠d->Hd a=some o->He a=some o)/\He d=some (.dT kvs)/\ux n fl bk lo He kvs/\iR kvs (kc (wo c one))=some (.ref ao)/\He ao=some (.tup ((al n fl bk lo (wo c one)).map V.int))) ?q1 ?t1
   case t1 =>
    intro N Rc
    have edd:=sxd _ _ ed
    refine⟨_,rfl,_,rfl,d,iR kvs (kc (wo c one)),rfl,Dw.t edd e5k,_,rfl,?_⟩
    cases hv:iR kvs (kc (wo c one)) with
    | some v =>
     obtain⟨ao,rfl,eao⟩:=kx.get hv
     exact gG (Rc _ _ ⟨kvs,ao,rfl,sx.trans sxd,fun a o _ e=>e,edd,kx.bu fun a xs e=>sxd _ _ e,hv,sxd _ _ eao⟩)
    | none =>
     refine jw ⟨_,rfl,_,rfl,_,rfl,b,f,a4,n,bk,lo,_,rfl,hB.mono (sx.trans sxd),lb,(sx.trans sxd) _ _ hf,low.1,sd _ _ e4,ox,?_,fun m r He st se er=>?_⟩
     ·refine oH low.1.1 ox.1 fun j hj=>?_
      rw[m7 (by rw[oc.1]; exact hj)]
      split
      ·exact RC _
      ·exact (dJ lb okb of low c).1.2.2.1 j
     rw[vO lb okb of low hcl st] at er
     have ede:=se _ _ edd
     have kxe:=kx.bu fun a xs e=>(sxd.trans se) _ _ e
     refine⟨_,rfl,_,rfl,d,_,rfl,Kh.t ede (se _ _ e5k) (Uh kx.len (Uh p12 (by decide))),?_⟩
     refine Rc _ _ ⟨_,r,rfl,aF ((sx.trans sxd).trans se) d0 _,fun a o na e=>by rw[bx na]; exact se _ _ e,aj,(kxe.put hcr er hv).bu (nD ede),by rw[EY,if_pos rfl],nD ede _ _ er⟩
   case q1 =>
   rintro σ He ⟨kvs',ao,rfl,s0e,kbe,ede,kne,hv,eao⟩
   have eRe:He R=some (.lst us):=kbe _ _ nRd (sxd _ _ eR)
   have e5e:He a5=some (.tup ((kc (wo c one)).map kV)):=kbe _ _ (fun z=>by have:=sxd _ _ ed; rw[← z,e5] at this; cases this) e5k
   refine⟨_,rfl,.inl ⟨rfl,_,SqL.of eRe⟩,_,rfl,_,rfl,d,_,rfl,hv▸Dw.t ede e5e,R,us,_,rfl,rfl,eRe,aD (by lia),?_⟩
   refine⟨us++[.ref ao],kvs',_,_,_,rfl,aF s0e R0 _,fun a o na nr e=>by rw[bx nr]; exact kbe _ _ na (sxd _ _ (kb _ _ na nr e)),aj,by rw[bx nRd.symm]; exact ede,kne.bu (bR eRe),?_⟩
   rw[QF,hone,PQ]
   have gxe:fD He us ((c.take i).map fun one=>al n fl bk lo (wo c one)):=gx.bu fun a xs e=>kbe _ _ (fun z=>by rw[z,ed] at e; cases e) (sxd _ _ e)
   exact (fD.snoc eao (by rw[iu lb okb of low]; lia) gxe).bu (bR eRe)
  ·rintro σ Hx ⟨us,kvs,u5,u6,u7,rfl,sx,kb,eR,ed,kx,gx⟩
   rw[Py,Qk] at gx
   exact⟨_,rfl,q R us kvs Hx sx (fun a o na e=>kb a o na (fun z=>by rw[z,hR] at e; cases e) (sa1 _ _ e)) hR eR gx ed kx⟩
def kg (g:List Int):List Key:=g.map fun i:Int=>(Wx i:Key)
theorem JH (g:List Int):(kg g).map kV=g.map V.int:=by
 unfold kg
 rw[RQ]
 rfl
theorem Gw {c d:List Int} (h:kg c=kg d):c=d:=by
 unfold kg at h
 exact (Xf fun a b e=>by
  have:a=b:=Sum.inl.inj e
  exact this).mp h
theorem fD.GP {H:Hp}:∀ {us:List V} {gs:List (List Int)} {g:List Int},fD H us (gs++[g])->∃ (us':List V) (a:Addr),us=us'++[.ref a]/\fD H us' gs/\H a=some (.tup (g.map V.int))
 | _,[],_,.cons h l .nil=>⟨[],_,rfl,.nil,h⟩
 | _,x::gs,g,.cons h l r=>by
  obtain⟨us',a,e,r',ha⟩:=fD.GP (gs:=gs) r
  exact⟨_::us',a,by rw[e]; rfl,.cons h l r',ha⟩
inductive LF (H0 H:Hp):List V->List (List Nat)->Prop where
 | nil:LF H0 H [] []
 | cons {a:Addr} {c:List Nat} {us:List V} {cs:List (List Nat)}:H a=some (.lst (c.map vN))->H0 a=none->LF H0 H us cs->LF H0 H (.ref a::us) (c::cs)
section
variable {n:Nat} {fl lo hi:List Int} {bk:List (List Pl)}
theorem xG (hb:bk.length=n) (ok:okB bk) (hf:okG n fl) (hlo:Low n fl bk lo):al n fl bk lo []=lo:=by
 have m:=dJ hb ok hf hlo []
 refine fJ (by rw[iu hb ok hf hlo,hlo.1.1]) (oH (iu hb ok hf hlo []) hlo.1.1 fun i hi=>?_) m.1.2.2.1
 rw[m.1.2.1 i hi (by simp)]
 exact RC _
theorem Ku (hb:bk.length=n) (ok:okB bk) (hf:okG n fl) (hlo:Low n fl bk lo) (oh:okG n hi) (fx:eX hi fl bk=hi) (hup:∀ g,LeG g (eX g fl bk)->LeG g hi) (lh:LeG lo hi):al n fl bk lo (ris n lo hi)=hi:=by
 have e:al n fl bk lo (P0 n)=hi:=by
  refine (Jr hb ok hf hlo ⟨⟨oh,fun i h1 h2=>absurd (List.mem_range.mpr h1) h2,lh,?_⟩,fun w hw=>hup w hw.2.2.2⟩).symm
  rw[fx]
  exact gR _
 have:=Bm hb ok hf hlo (P0 n)
 rw[e] at this
 exact this
theorem Jb (hb:bk.length=n) (ok:okB bk) (hf:okG n fl) (hlo:Low n fl bk lo) (hup:∀ g,LeG g (eX g fl bk)->LeG g hi) (c:List Nat) {i:Nat} (h:i∈ris n lo (al n fl bk lo c)):i∈ris n lo hi:=by
 obtain⟨h1,h2⟩:=gm.mp h
 have:=hup _ (dJ hb ok hf hlo c).1.2.2.2 i
 exact gm.mpr ⟨h1,by lia⟩
structure De (n:Nat) (fl:List Int) (bk:List (List Pl)) (lo hi:List Int) (S A F:List (List Nat)):Prop where
 cl:∀ c∈S,ris n lo (al n fl bk lo c)=c
 nd:S.Nodup
 e0:[]∈S
 tp:ris n lo hi∈S
 aS:∀ c∈A,c∈S/\c≠[]
 aN:A.Nodup
 st:∀ c∈S,c ∉ A->c≠[]->∀ one∈c,ris n lo (al n fl bk lo (wo c one))∈S
 fN:F.Nodup
 fI:∀ c,c∈F ↔ c∈S/\c ∉ A/\c≠[]/\Knot n fl bk lo c
theorem De.len {S A F:List (List Nat)} (h:De n fl bk lo hi S A F):S.length<=2 ^ n:=by
 have:=cW (m:=cO n) h.nd fun c hc=>by
  rw[← h.cl c hc]
  exact eE _ n
 rw[dY] at this
 exact this
theorem De.done {S F:List (List Nat)} (hb:bk.length=n) (ok:okB bk) (hf:okG n fl) (hlo:Low n fl bk lo) (hup:∀ g,LeG g (eX g fl bk)->LeG g hi) (h:De n fl bk lo hi S [] F) (c:List Nat):c∈F ↔ c.Pairwise (· < ·)/\(∀ i∈c,i < n)/\Knot n fl bk lo c:=by
 rw[h.fI]
 refine⟨fun⟨h1,_,_,h4⟩=>?_,fun⟨h1,h2,h3⟩=>?_⟩
 ·refine⟨?_,fun i hi'=>?_,h4⟩
  ·rw[← h.cl c h1]
   exact jT _
  ·rw[← h.cl c h1] at hi'
   exact (gm.mp hi').1
 ·refine⟨yC hb ok hf hlo h.cl h.tp (fun c i hi'=>Jb hb ok hf hlo hup c hi') (fun c hc c0 one ho=>h.st c hc (by simp) c0 one ho) h1 h2 h3,by simp,fun z=>?_,h3⟩
  rw[z] at h3
  exact h3.1 (xG hb ok hf hlo)
theorem De.turn {S A F:List (List Nat)} {c:List Nat} {N:List (List Nat)} (hb:bk.length=n) (ok:okB bk) (hf:okG n fl) (hlo:Low n fl bk lo) (h:De n fl bk lo hi S (A++[c]) F) (n1:N.Nodup) (n2:∀ d∈N,d ∉ S/\ris n lo (al n fl bk lo d)=d)
  (all:∀ one∈c,ris n lo (al n fl bk lo (wo c one))∈S++N) {F':List (List Nat)} (hF:F'=if (∀ one∈c,al n fl bk lo (wo c one)=lo) then F++[c] else F):De n fl bk lo hi (S++N) (A++N) F':=by
 obtain⟨cS,c0⟩:=h.aS c (List.mem_append.mpr (.inr (List.mem_singleton.mpr rfl)))
 have cA:c ∉ A:=fun z=>(List.nodup_append.mp h.aN).2.2 c z c (List.mem_singleton.mpr rfl) rfl
 have cN:c ∉ N:=fun z=>(n2 c z).1 cS
 have alc:al n fl bk lo c≠lo:=fun z=>c0 (by rw[← h.cl c cS,z,Gx])
 have kn:Knot n fl bk lo c ↔ ∀ one∈c,al n fl bk lo (wo c one)=lo:=⟨fun k=>k.2,fun k=>⟨alc,k⟩⟩
 have cF:c ∉ F:=fun z=>((h.fI c).mp z).2.1 (List.mem_append.mpr (.inr (List.mem_singleton.mpr rfl)))
 have nn0:∀ d∈N,d≠[]:=fun d hd z=>(n2 d hd).1 (by rw[z]; exact h.e0)
 refine⟨fun d hd=>?_,?_,List.mem_append.mpr (.inl h.e0),List.mem_append.mpr (.inl h.tp),fun d hd=>?_,?_,fun d hd hA d0 one ho=>?_,?_,fun d=>?_⟩
 ·rcases List.mem_append.mp hd with z | z
  ·exact h.cl d z
  ·exact (n2 d z).2
 ·exact List.nodup_append.mpr ⟨h.nd,n1,fun a ha b hb' e=>(n2 b hb').1 (e▸ha)⟩
 ·rcases List.mem_append.mp hd with z | z
  ·obtain⟨a,b⟩:=h.aS d (List.mem_append.mpr (.inl z))
   exact⟨List.mem_append.mpr (.inl a),b⟩
  ·exact⟨List.mem_append.mpr (.inr z),nn0 d z⟩
 ·exact List.nodup_append.mpr ⟨(List.nodup_append.mp h.aN).1,n1,fun a ha b hb' e=>(n2 b hb').1 (e▸(h.aS a (List.mem_append.mpr (.inl ha))).1)⟩
 ·have hdN:d ∉ N:=fun z=>hA (List.mem_append.mpr (.inr z))
  have hdA:d ∉ A:=fun z=>hA (List.mem_append.mpr (.inl z))
  have hdS:d∈S:=by
   rcases List.mem_append.mp hd with z | z
   ·exact z
   ·exact absurd z hdN
  by_cases e:d=c
  ·subst e
   exact all one ho
  ·refine List.mem_append.mpr (.inl (h.st d hdS (fun z=>?_) d0 one ho))
   rcases List.mem_append.mp z with z | z
   ·exact hdA z
   ·exact e (List.mem_singleton.mp z)
 ·rw[hF]
  split
  ·exact List.nodup_append.mpr ⟨h.fN,by simp,fun a ha b hb' e=>cF (by rw[← List.mem_singleton.mp hb',← e]; exact ha)⟩
  ·exact h.fN
 ·have old:d≠c->(d∈F ↔ d∈S++N/\d ∉ A++N/\d≠[]/\Knot n fl bk lo d):=fun ne=>by
   rw[h.fI d]
   refine⟨fun⟨a1,a2,a3,a4⟩=>⟨List.mem_append.mpr (.inl a1),fun z=>?_,a3,a4⟩,fun⟨a1,a2,a3,a4⟩=>⟨?_,fun z=>?_,a3,a4⟩⟩
   ·rcases List.mem_append.mp z with z | z
    ·exact a2 (List.mem_append.mpr (.inl z))
    ·exact (n2 d z).1 a1
   ·rcases List.mem_append.mp a1 with z | z
    ·exact z
    ·exact absurd (List.mem_append.mpr (.inr z)) a2
   ·rcases List.mem_append.mp z with z | z
    ·exact a2 (List.mem_append.mpr (.inl z))
    ·exact ne (List.mem_singleton.mp z)
  rw[hF]
  by_cases k:∀ one∈c,al n fl bk lo (wo c one)=lo
  ·rw[if_pos k,List.mem_append,Ui]
   by_cases e:d=c
   ·subst e
    exact⟨fun _=>⟨List.mem_append.mpr (.inl cS),fun z=>by
     rcases List.mem_append.mp z with z | z
     ·exact cA z
     ·exact cN z,c0,kn.mpr k⟩,fun _=>.inr rfl⟩
   ·rw[← old e]
    exact⟨fun z=>z.resolve_right e,fun z=>.inl z⟩
  ·rw[if_neg k]
   by_cases e:d=c
   ·subst e
    exact⟨fun z=>absurd z cF,fun z=>absurd (kn.mp z.2.2.2) k⟩
   ·exact old e
end
theorem LF.keep {H0 H H':Hp} (k:∀ (a:Addr) (c:List Nat),H0 a=none->H a=some (HO.lst (c.map vN))->H' a=some (HO.lst (c.map vN))):∀ {us:List V} {cs:List (List Nat)},LF H0 H us cs->LF H0 H' us cs
 | _,_,.nil=>.nil
 | _,_,.cons h1 h2 r=>.cons (k _ _ h2 h1) h2 (LF.keep k r)
theorem LF.snoc {H0 H:Hp} {a:Addr} {c:List Nat} (h1:H a=some (.lst (c.map vN))) (h2:H0 a=none):∀ {us:List V} {cs:List (List Nat)},LF H0 H us cs->LF H0 H (us++[.ref a]) (cs++[c])
 | _,_,.nil=>.cons h1 h2 .nil
 | _,_,.cons k1 k2 r=>.cons k1 k2 (LF.snoc h1 h2 r)
theorem LF.length {H0 H:Hp}:∀ {us:List V} {cs:List (List Nat)},LF H0 H us cs->us.length=cs.length
 | _,_,.nil=>rfl
 | _,_,.cons _ _ r=>by rw[Qo,Qo,LF.length r]
theorem LF.pairs {H0 H:Hp}:∀ {us:List V} {cs:List (List Nat)},LF H0 H us cs->∃ ps:List (Addr × List Int),us=ps.map (fun p=>V.ref p.1)/\ps.map (·.2)=cs.map iN/\∀ p∈ps,∃ c∈cs,p.2=iN c/\H p.1=some (.lst (c.map vN))/\H0 p.1=none
 | _,_,.nil=>⟨[],rfl,rfl,fun p hp=>by cases hp⟩
 | _,_,.cons (a:=a) (c:=c) h1 h2 r=>by
  obtain⟨ps,e1,e2,e3⟩:=LF.pairs r
  refine⟨(a,iN c)::ps,by rw[e1]; rfl,by rw[QM,QM,e2],fun p hp=>?_⟩
  rcases List.mem_cons.mp hp with z | z
  ·subst z
   exact⟨c,Qa,rfl,h1,h2⟩
  ·obtain⟨c',h3,h4⟩:=e3 p z
   exact⟨c',Qg _ h3,h4⟩
theorem cY (c:List Nat):(iN c).map V2=c:=by
 unfold iN
 rw[RQ]
 exact (SQ fun a _=>QC a).trans (List.map_id c)
theorem LF.ordered {H0 H:Hp} {cs:List (List Nat)} {ps:List (Addr × List Int)} (h:∀ p∈ps,∃ c∈cs,p.2=iN c/\H p.1=some (.lst (c.map vN))/\H0 p.1=none):∀ {qs:List (Addr × List Int)},(∀ p∈qs,p∈ps)->LF H0 H (qs.map fun p=>V.ref p.1) (qs.map fun p=>p.2.map V2)
 | [],_=>.nil
 | q::qs,k=>by
  obtain⟨c,_,h2,h3,h4⟩:=h q (k q Qa)
  refine .cons ?_ h4 (LF.ordered h fun p hp=>k p (Qg _ hp))
  show H q.1=some (.lst ((q.2.map V2).map vN))
  rw[h2,cY]
  exact h3
abbrev uH:Stmt:=top 25
theorem eQ:aW ["book","floor","sure","whole","found","known","seen","ahead","giving","rows","row"] ["book","floor"] (aH uH):=⟨rfl,rfl,rfl,by decide+kernel,rfl,by decide+kernel,by decide+kernel⟩
def eO (n:Nat) (fl:List Int) (bk:List (List Pl)) (ks:List (List Nat)):Prop :=
 (∀ lo,Low n fl bk lo->∀ c,c∈ks ↔ c.Pairwise (· < ·)/\(∀ i∈c,i < n)/\Knot n fl bk lo c)/\ks.Pairwise fun c d=>HT.lexLt (iN c) (iN d)=true
inductive wj (vs:List V) (H:Hp) (Q:VK):Prop where
 | mk (b f:Addr) (n:Nat) (bk:List (List Pl)) (fl:List Int) (z0:vs=[.ref b,.ref f]) (z1:n<=6) (z2:ou n H b bk) (z3:bk.length=n) (z4:H f=some (.tup (fl.map V.int))) (z5:okG n fl) (z6:∀ (r:Addr) (us:List V) (ks:List (List Nat)) (H':Hp),aM H H'->H r=none->H' r=some (.lst us)->LF H H' us ks->(∀ a,V.ref a∈us->a≠r)->eO n fl bk ks->Q (.ref r) H'):wj  vs H Q
def zQ:Sp:=fun vs H Q _=>wj  vs H Q
def KW (n:Nat) (fl:List Int) (bk:List (List Pl)) (lo hi:List Int) (b f su wh fo kn se ah:Addr) (H0 Hi:Hp) (m:Nat) (σ:St) (Hx:Hp):Prop :=
 ∃ (S A F:List (List Nat)) (kvs svs:List (List Key × V)) (ua uf:List V),(∃ u8 u9 u10,σ=[some (.ref b),some (.ref f),some (.ref su),some (.ref wh),some (.ref fo),some (.ref kn),some (.ref se),some (.ref ah),u8,u9,u10])/\m+2 * S.length=2 * 2 ^ n+A.length ∧
 aM H0 Hx/\(∀ a o,Hi a=some o->∃ o',Hx a=some o')/\De n fl bk lo hi S A F/\Hx kn=some (.dT kvs)/\ux n fl bk lo Hx kvs/\Hx se=some (.dT svs)/\svs.map (·.1)=S.map (fun c=>kg (al n fl bk lo c))/\Hx ah=some (.lst ua)/\fD Hx ua (A.map fun c=>al n fl bk lo c)/\Hx fo=some (.lst uf)/\LF Hi Hx uf F
theorem DY {k:Nat} (hk1:1<=k) (F:Fun K "knots" "knots" uH f fd) (B:Bt mg)
  (D_least:Df P w K mg base "least" (k+1) ["book","floor"] (ue Kp)) (D_greatest:Df P w K mg base "greatest" (k+1) ["book","floor"] (ue rfF)) (D_put_off:Df P w K mg base "put_off" k ["book","sure","giving","known"] xP) (D_risers:Df P w K mg base "risers" 1 ["sure","giving"] pW) :
  fj P w K mg base CX0 (k+2) f fd ["book","floor"] zQ:=by
 refine F.ok eQ (fun vs H Q E h=>?_) (fun cdv A outer s H vs Q E hr h=>?_)
 ·obtain⟨b,f,n,bk,fl,rfl,_⟩:=h
  rfl
 ·obtain⟨b,f,n,bk,fl,rfl,n6,hB,lb,hf,of,q⟩:=h
  refine⟨_,(aA (aU (i:=2) eQ.nd rfl (Wk rfl) (aY D_least hr (aa (pv 0) (aa (pv 1) aq))))
 (aA (aU (i:=3) eQ.nd rfl (Qm rfl) (aY D_greatest hr (aa (pv 0) (aa (pv 1) aq))))
 (aA (bZ (aV (r:=Ew K) (uU hr.nu) (pv 3) (pv 2) (bf _)) (aC (aK (bK aq))) aX)
 (aA (aU (i:=4) eQ.nd rfl (Qm rfl) (bK aq))
 (aA (aU (i:=5) eQ.nd rfl (Qm rfl) DP)
 (aA (aU (i:=6) eQ.nd rfl (Qm rfl) (Fi hr.nu (wg (pv 2) jA (wg (pv 3) jA J5)) rfl rfl (by simp) (by decide)))
 (aA (aU (i:=7) eQ.nd rfl (Qm rfl) (bK (aa (pv 3) aq)))
 (aA (qy Rt (aV vH (aL (r:=yg K) cC rfl B.len_ ie (aa (pv 7) aq)) aB (bf _)) (aA (aU (i:=8) eQ.nd rfl (Qm rfl) (K9 QH PySem.F.slot_list_pop PySem.F.type_list_pop Lp (pv 7)))
 (aA (aU (i:=9) eQ.nd rfl (Qm rfl) (aY D_put_off hr (aa (pv 0) (aa (pv 2) (aa (pv 8) (aa (pv 5) aq))))))
 (aA (bZ (iH (aL (r:=JW K) (sW rfl) rfl B.all_ GJ (aa (bA (L:=["row"]) (F:=["sure"]) (cap:=[2]) rfl (bj rfl rfl (by kernel_rfl)) (dX (pv 9)) (fun _ _ _ _ _=>(aG (i:=0) (aP (by decide+kernel)) rfl (Qm rfl))) (fun _ _ _ _ _=>bC) (fun _ _ _ _ _=>(f9 (r:=Ew K) (uU hr.nu) (pv 0) (pv 1) (bf _)))) aq))) (aC (gf (j8 QH Rq Rp cP (pv 4) (aa (bG (r:=Bw K) yX rfl B.list_ vg (aa (aY D_risers hr (aa (pv 2) (aa (pv 8) aq))) aq)) aq)))) aX)
 (aC (gK Rt rfl (dX (pv 9)) (aG (i:=10) eQ.nd rfl (Qm rfl)) (aC (bZ (BV (tY hr.um (pv 10) (pv 6))) (aA (CV hr.um (pv 6) (pv 10) jA rfl)
 (aC (gf (j8 QH Rq Rp cP (pv 7) (aa (pv 10) aq))))) aX))))))))
 (aC (aK (aL (r:=vp K) (mR hr) rfl B.sorted_ (by decide+kernel) (aa (pv 4) aq)))))))))))),?_⟩
  have okb:=hB.okB
  have p6:2 ^ n<=64:=by
   have:2 ^ n<=2 ^ 6:=Vy (by decide) n6
   simpa using this
  refine bw (fun σ H1=>∃ (su:Addr) (lo:List Int),σ=[some (.ref b),some (.ref f),some (.ref su),none,none,none,none,none,none,none,none]/\aM H H1/\H1 su=some (.tup (lo.map V.int))/\Low n fl bk lo) ?q1 ?t1
  case t1 =>
   intro N Rc
   exact⟨_,rfl,_,rfl,b,f,n,bk,fl,rfl,hB,lb,hf,of,fun m1 a1 H1 _ st1 s1 e1=>Rc _ _ ⟨a1,_,rfl,s1,e1,du lb okb of st1⟩⟩
  case q1 =>
  rintro σ H1 ⟨su,lo,rfl,s1,esu,low⟩
  refine bw (fun σ H2=>∃ (wh:Addr) (hi:List Int),σ=[some (.ref b),some (.ref f),some (.ref su),some (.ref wh),none,none,none,none,none,none,none]/\aM H1 H2/\H2 wh=some (.tup (hi.map V.int))/\okG n hi/\eX hi fl bk=hi/\∀ g,LeG g (eX g fl bk)->LeG g hi) ?q2 ?t2
  case t2 =>
   intro N Rc
   refine⟨_,rfl,_,rfl,b,f,n,bk,fl,rfl,hB.mono s1,lb,s1 _ _ hf,of,fun m2 a2 H2 _ st2 s2 e2=>Rc _ _ ⟨a2,_,rfl,s2,e2,dG lb okb of (dF lb okb of) m2,st2.1,fun g h=>nH lb okb of h m2⟩⟩
  case q2 =>
  rintro σ H2 ⟨wh,hi,rfl,s2,ewh,oh,fx,hup⟩
  have s12:=s1.trans s2
  have lh:LeG lo hi:=low.2.2 hi (by rw[fx]; exact gR _)
  refine bw (fun σ H3=>σ=[some (.ref b),some (.ref f),some (.ref su),some (.ref wh),none,none,none,none,none,none,none]/\H3=H2/\hi≠lo) ?q3 ?t3
  case t3 =>
   intro N Rc
   refine⟨_,rfl,_,rfl,wh,su,hi,lo,rfl,rfl,SqT.of ewh,SqT.of (s2 _ _ esu),_,rfl,?_⟩
   by_cases e:hi=lo
   ·rw[decide_eq_true e]
    refine jw ⟨small (by show 0<=1000; decide),fun p hp=>?_⟩
    refine q p [] [] _ (s12.trans (au hp _)) (s12.free hp) aj .nil (fun a h=>by cases h) ⟨fun lo' hlo' c=>⟨fun z=>(by cases z),fun z=>absurd ?_ z.2.2.1⟩,.nil⟩
    have:lo'=lo:=hlo'.uniq low
    subst this
    have m:=dJ lb okb of low c
    refine fJ (by rw[iu lb okb of low,low.1.1]) ?_ m.1.2.2.1
    have:=hup _ m.1.2.2.2
    rw[e] at this
    exact this
   ·rw[decide_eq_false e]
    exact gG (Rc _ _ ⟨rfl,rfl,e⟩)
  case q3 =>
  rintro σ H3 ⟨rfl,rfl,hne⟩
  refine bw (fun σ H4=>∃ fo:Addr,σ=[some (.ref b),some (.ref f),some (.ref su),some (.ref wh),some (.ref fo),none,none,none,none,none,none]/\aM H3 H4/\H3 fo=none/\H4 fo=some (.lst [])) ?q4 ?t4
  case t4 =>
   intro N Rc
   exact⟨small (by show 0<=1000; decide),fun p hp=>Rc _ _ ⟨p,rfl,au hp _,hp,aj⟩⟩
  case q4 =>
  rintro σ H4 ⟨fo,rfl,s4,ffo,efo⟩
  refine bw (fun σ H5=>∃ kn:Addr,σ=[some (.ref b),some (.ref f),some (.ref su),some (.ref wh),some (.ref fo),some (.ref kn),none,none,none,none,none]/\aM H4 H5/\H4 kn=none/\H5 kn=some (.dT [])) ?q5 ?t5
  case t5 =>
   intro N Rc
   exact fun p hp=>Rc _ _ ⟨p,rfl,au hp _,hp,aj⟩
  case q5 =>
  rintro σ H5 ⟨kn,rfl,s5,fkn,ekn⟩
  have s35:=s4.trans s5
  refine bw (fun σ H6=>∃ (se:Addr) (svs:List (List Key × V)),σ=[some (.ref b),some (.ref f),some (.ref su),some (.ref wh),some (.ref fo),some (.ref kn),some (.ref se),none,none,none,none]/\aM H5 H6/\H5 se=none/\H6 se=some (.dT svs)/\svs.map (·.1)=[kg lo,kg hi]) ?q6 ?t6
  case t6 =>
   intro N Rc p hp
   have nk:kg lo≠kg hi:=fun z=>hne (Gw z).symm
   have e1:putK ([]:List (List Key × V)) (kg lo) (.bl true)=[(kg lo,.bl true)]:=lX _ Fq
   have e2:putK ([(kg lo,.bl true)]:List (List Key × V)) (kg hi) (.bl true)=[(kg lo,.bl true),(kg hi,.bl true)]:=lX _ (cZ nk)
   refine⟨_,rfl,_,rfl,[],kg lo,su,aj,rfl,?_,aD (by show 0<=1000; decide),_,kg hi,wh,aj,rfl,?_,aD (by rw[e1]; show 1<=1000; decide),Rc _ _ ⟨p,_,rfl,aF (aF (au hp _) hp _) hp _,hp,aj,by rw[e1,e2]; rfl⟩⟩
   ·rw[JH]
    exact au hp _ _ _ (s35 _ _ (s2 _ _ esu))
   ·rw[JH]
    exact aF (au hp _) hp _ _ _ (s35 _ _ ewh)
  case q6 =>
  rintro σ H6 ⟨se,svs0,rfl,s6,fse,ese,esv⟩
  refine bw (fun σ H7=>∃ ah:Addr,σ=[some (.ref b),some (.ref f),some (.ref su),some (.ref wh),some (.ref fo),some (.ref kn),some (.ref se),some (.ref ah),none,none,none]/\aM H6 H7/\H6 ah=none/\H7 ah=some (.lst [.ref wh])) ?q7 ?t7
  case t7 =>
   intro N Rc
   exact⟨_,rfl,small (by show 1<=1000; decide),fun p hp=>Rc _ _ ⟨p,rfl,au hp _,hp,aj⟩⟩
  case q7 =>
  rintro σ Hi ⟨ah,rfl,s7,fah,eah⟩
  have s3i:=s35.trans (s6.trans s7)
  have kn3:H3 kn=none:=s4.free fkn
  have se3:H3 se=none:=s35.free fse
  have ah3:H3 ah=none:=(s35.trans s6).free fah
  have efoi:=(s5.trans (s6.trans s7)) _ _ efo
  have ekni:=(s6.trans s7) _ _ ekn
  have esei:=s7 _ _ ese
  have nfa:fo≠ah:=fun z=>by rw[← z,(s5.trans s6) _ _ efo] at fah; cases fah
  have alt:=Ku lb okb of low oh fx hup lh
  have rtop:ris n lo hi≠[]:=fun z=>hne (by
   rw[← alt] at z
   have:=Ia lb okb of low z
   rw[alt] at this
   exact this)
  have hBi:=hB.mono s12
  refine bw (fun σ Hx=>∃ (S F:List (List Nat)) (uf:List V),(∃ u8 u9 u10,σ=[some (.ref b),some (.ref f),some (.ref su),some (.ref wh),some (.ref fo),some (.ref kn),some (.ref se),some (.ref ah),u8,u9,u10])/\aM H3 Hx/\De n fl bk lo hi S [] F/\Hx fo=some (.lst uf)/\LF Hi Hx uf F) ?qR ?tW
  case qR =>
   rintro σ Hx ⟨S,Fs,uf,⟨u8,u9,u10,rfl⟩,sx,sr,efx,lf⟩
   obtain⟨ps,e1,e2,e3⟩:=lf.pairs
   subst e1
   have fl63:Fs.length < 64:=by
    have h1:=cW (m:=S.erase []) sr.fN fun c hc=>(W0 ((sr.fI c).mp hc).2.2.1).mpr ((sr.fI c).mp hc).1
    rw[Wl sr.e0] at h1
    have h2:=sr.len
    have h3:0 < S.length:=List.length_pos_of_mem sr.e0
    lia
   have lps:ps.length=Fs.length:=by
    have:=congrArg Vz e2
    rw[Py,Py] at this
    exact this
   have ndp:(ps.map (·.2)).Nodup:=by
    rw[e2]
    exact List.Pairwise.map _ (fun a b ne e=>ne (by rw[← cY a,← cY b,e])) sr.fN
   refine⟨_,rfl,fo,ps,rfl,SqL.of efx,by lia,fun p hp=>?_,ndp,fun qs pq pw l hl=>?_⟩
   ·obtain⟨c,_,h2,h3,_⟩:=e3 p hp
    exact SqL.of (h3.trans (by rw[h2,eG]; rfl))
   ·have inp:∀ p∈qs,p∈ps:=fun p hp=>pq.mem_iff.mp hp
    have sn:=au hl (.lst (qs.map fun p=>V.ref p.1))
    have lo':=LF.ordered (qs:=qs) e3 inp
    have lo2:LF H (upd Hx l (.lst (qs.map fun p=>V.ref p.1))) (qs.map fun p=>V.ref p.1) (qs.map fun p=>p.2.map V2):=by
     have:∀ {us cs},LF Hi Hx us cs->LF H (upd Hx l (.lst (qs.map fun p=>V.ref p.1))) us cs:=by
      intro us cs z
      induction z with
      | nil=>exact .nil
      | cons h1 h2 _ ih=>exact .cons (sn _ _ h1) ((s12.trans s3i).free h2) ih
     exact this lo'
    have memF:∀ c,c∈(qs.map fun p=>p.2.map V2) ↔ c∈Fs:=fun c=>by
     have e4:ps.map (fun p=>p.2.map V2)=Fs:=by
      have:=congrArg (List.map (List.map V2)) e2
      rw[RQ,RQ] at this
      exact this.trans ((SQ fun a _=>cY a).trans (List.map_id Fs))
     rw[← e4]
     exact (pq.map _).mem_iff
    refine q l _ _ _ ((s12.trans sx).trans sn) ((s12.trans sx).free hl) aj lo2 (fun a ha=>?_) ⟨fun lo2 hlo2 c=>?_,?_⟩
    ·obtain⟨p,hp,e⟩:=List.mem_map.mp ha
     obtain⟨c,_,_,h3,_⟩:=e3 p (inp p hp)
     intro z
     cases e
     rw[z,hl] at h3
     cases h3
    ·have:lo2=lo:=hlo2.uniq low
     subst this
     rw[memF]
     exact sr.done lb okb of low hup c
    ·rw[RP]
     refine pw.imp_of_mem fun {a b} ha hb h=>?_
     obtain⟨c,_,h2,_⟩:=e3 a (inp a ha)
     obtain⟨d,_,h3,_⟩:=e3 b (inp b hb)
     rw[h2,h3,cY,cY,← h2,← h3]
     exact h
  case tW =>
   intro N Rc
   have sr0:De n fl bk lo hi [[],ris n lo hi] [ris n lo hi] []:=by
    refine⟨fun c hc=>?_,?_,by simp,by simp,fun c hc=>?_,by simp,fun c hc hA c0=>?_,.nil,fun c=>⟨fun z=>(by cases z),fun z=>?_⟩⟩
    ·rcases List.mem_cons.mp hc with z | z
     ·rw[z,xG lb okb of low,Gx]
     ·rw[List.mem_singleton.mp z,alt]
    ·refine List.nodup_cons.mpr ⟨fun z=>rtop (List.mem_singleton.mp z).symm,by simp⟩
    ·rw[List.mem_singleton.mp hc]
     exact⟨by simp,rtop⟩
    ·rcases List.mem_cons.mp hc with z | z
     ·exact absurd z c0
     ·exact absurd z hA
    ·rcases List.mem_cons.mp z.1 with y | y
     ·exact absurd y z.2.2.1
     ·exact absurd y z.2.1
   refine⟨KW n fl bk lo hi b f su wh fo kn se ah H3 Hi,⟨2 * 2 ^ n+1 - 4,[[],ris n lo hi],[ris n lo hi],[],[],svs0,[.ref wh],[],⟨_,_,_,rfl⟩,?_,s3i,fun a o e=>⟨o,e⟩,sr0,ekni,⟨.nil,fun p hp=>by cases hp⟩,esei,?_,eah,?_,efoi,.nil⟩,?_⟩
   ·have:=sr0.len
    show _+2 * 2=2 * 2 ^ n+1
    have h2:([[],ris n lo hi]:List (List Nat)).length=2:=rfl
    lia
   ·rw[esv,QM,QM,Vk,xG lb okb of low,alt]
   ·rw[QM,Vk,alt]
    exact .cons (s3i _ _ ewh) (by rw[oh.1]; lia) .nil
   rintro m σ Hx ⟨S,Ap,Fs,kvs,svs,ua,uf,⟨u8,u9,u10,rfl⟩,hm,sx,kept,sr,ekx,kno,esx,esk,eax,gax,efx,lf⟩
   refine⟨_,rfl,ah,_,rfl,.inl (SqL.of eax),_,_,rfl,rfl,_,rfl,?_⟩
   rcases List.eq_nil_or_concat Ap with hA | ⟨A',c,hA⟩
   ·subst hA
    cases gax
    exact gG (Rc _ _ ⟨S,Fs,uf,⟨_,_,_,rfl⟩,sx,sr,efx,lf⟩)
   rw[List.concat_eq_append] at hA
   subst hA
   rw[PQ] at gax
   obtain⟨ua',ga,rfl,gax',ega0⟩:=gax.GP
   have ega:Hx ga=some (.tup ((al n fl bk lo c).map V.int)):=ega0
   rw[decide_eq_true (show (((ua'++[V.ref ga]).length:Nat):Int) > 0 by rw[Qj]; have:([V.ref ga]:List V).length=1:=rfl; lia)]
   refine jw ⟨fun σ' H'=>∃ m',m' < m/\KW n fl bk lo hi b f su wh fo kn se ah H3 Hi m' σ' H',fun _ _ h=>h,?_⟩
   obtain⟨cS,c0⟩:=sr.aS c (List.mem_append.mpr (.inr (List.mem_singleton.mpr rfl)))
   have hcl:=sr.cl c cS
   have c12:c.length<=6:=by
    rw[← hcl]
    exact Q6 (Tg _ _) (by rw[Qs]; exact n6)
   refine bw (fun σ Hy=>σ=[some (.ref b),some (.ref f),some (.ref su),some (.ref wh),some (.ref fo),some (.ref kn),some (.ref se),some (.ref ah),some (.ref ga),u9,u10]/\Hy=upd Hx ah (.lst ua')) ?qp ?tp
   case tp =>
    intro N2 Rc2
    refine⟨_,rfl,.inl ⟨rfl,_,SqL.of eax⟩,ah,_,.ref ga,rfl,rfl,eax,by simp,Rc2 _ _ ⟨rfl,by rw[List.dropLast_concat]⟩⟩
   case qp =>
   rintro σ Hy ⟨rfl,eHy⟩
   have sHy:aM H3 Hy:=by rw[eHy]; exact aF sx ah3 _
   have yo:∀ a o,a≠ah->Hx a=some o->Hy a=some o:=fun a o na e=>by rw[eHy,bx na]; exact e
   have nka:kn≠ah:=fun z=>by rw[z,eax] at ekx; cases ekx
   have nsa:se≠ah:=fun z=>by rw[z,eax] at esx; cases esx
   have nsk:se≠kn:=fun z=>by rw[z,ekn] at fse; cases fse
   have tyo:∀ a xs,Hx a=some (HO.tup xs)->Hy a=some (HO.tup xs):=fun a xs e=>yo a _ (fun z=>by rw[z,eax] at e; cases e) e
   have eya:Hy ah=some (.lst ua'):=by rw[eHy]; exact aj
   refine bw (fun σ Hz=>∃ (ro:Addr) (ur:List V) (kvs':List (List Key × V)),σ=[some (.ref b),some (.ref f),some (.ref su),some (.ref wh),some (.ref fo),some (.ref kn),some (.ref se),some (.ref ah),some (.ref ga),some (.ref ro),u10]/\aM H3 Hz/\(∀ a o,a≠kn->Hy a=some o->Hz a=some o)/\Hy ro=none/\Hz ro=some (.lst ur)/\fD Hz ur (c.map fun one=>al n fl bk lo (wo c one))/\Hz kn=some (.dT kvs')/\ux n fl bk lo Hz kvs') ?qo ?to
   case to =>
    intro N2 Rc2
    exact⟨_,rfl,_,rfl,_,rfl,_,rfl,b,su,ga,kn,n,bk,fl,lo,c,kvs,H3,rfl,by lia,sHy,kn3,hBi,lb,of,s2 _ _ esu,low,tyo _ _ ega,hcl,yo _ _ nka ekx,kno.bu tyo,fun r us kvs' H' h1 h2 h3 h4 h5 h6 h7=>Rc2 _ _ ⟨r,us,kvs',rfl,h1,h2,h3,h4,h5,h6,h7⟩⟩
   case qo =>
   rintro σ Hz ⟨ro,ur,kvs',rfl,sz,yz,fro,ero,gr,ekz,knz⟩
   have efy:=yo _ _ nfa efx
   have nfk:fo≠kn:=fun z=>by rw[z,ekx] at efx; cases efx
   have nfs:fo≠se:=fun z=>by rw[z,esx] at efx; cases efx
   have efz:=yz _ _ nfk efy
   have ezs:Hz se=some (.dT svs):=yz _ _ nsk (yo _ _ nsa esx)
   have eza:Hz ah=some (.lst ua'):=yz _ _ nka.symm eya
   have tyz:∀ a xs,Hy a=some (HO.tup xs)->Hz a=some (HO.tup xs):=fun a xs e=>yz a _ (fun z=>by rw[z,yo _ _ nka ekx] at e; cases e) e
   have egz:=tyz _ _ (tyo _ _ ega)
   have keptz:∀ a o,Hi a=some o->∃ o',Hz a=some o':=fun a o e=>by
    obtain⟨o',e'⟩:=kept a o e
    by_cases z1:a=kn
    ·rw[z1]; exact⟨_,ekz⟩
    ·by_cases z2:a=ah
     ·rw[z2]; exact⟨_,eza⟩
     ·exact⟨o',yz _ _ z1 (yo _ _ z2 e')⟩
   have fresh:∀ {a:Addr} {G:Hp},(∀ b o,Hz b=some o->∃ o',G b=some o')->G a=none->Hi a=none:=fun {a G} kp e=>by
    cases z:Hi a with
    | none=>rfl
    | some o =>
     obtain⟨o1,h1⟩:=keptz a o z
     obtain⟨o2,h2⟩:=kp a o1 h1
     rw[e] at h2
     cases h2
   have lfz:LF Hi Hz uf Fs:=lf.keep fun a c' ha e=>yz _ _ (fun z=>by rw[z,ekni] at ha; cases ha) (yo _ _ (fun z=>by rw[z,eah] at ha; cases ha) e)
   have nro:ro≠ah/\ro≠se/\ro≠fo:=⟨fun z=>(by rw[z,eya] at fro; cases fro),fun z=>(by rw[z,yo _ _ nsa esx] at fro; cases fro),fun z=>(by rw[z,efy] at fro; cases fro)⟩
   have luf:uf.length<=64:=by
    rw[lf.length]
    have h1:=cW (m:=S) sr.fN fun c hc=>((sr.fI c).mp hc).1
    have:=sr.len
    lia
   refine bw (fun σ Hw=>∃ uf':List V,σ=[some (.ref b),some (.ref f),some (.ref su),some (.ref wh),some (.ref fo),some (.ref kn),some (.ref se),some (.ref ah),some (.ref ga),some (.ref ro),u10]/\aM H3 Hw/\(∀ a o,a≠fo->Hz a=some o->Hw a=some o)/\Hw fo=some (.lst uf')/\LF Hi Hw uf' (if (∀ one∈c,al n fl bk lo (wo c one)=lo) then Fs++[c] else Fs)) ?qf ?tf
   case tf =>
    intro N2 Rc2
    have lrw:(c.map fun one=>al n fl bk lo (wo c one)).length<=6:=by rw[Py]; exact c12
    have lur:=gr.length
    refine⟨_,rfl,ro,rfl,⟨_,SqL.of ero⟩,fun D hD=>cJ (K:=K) (a:=ro) (xs:=ur) (fun i zs σ' Hq=>(∃ u,σ'=[u,some (.ref su)])/\aM Hz Hq/\Hq D=some (.lst zs)/\zs=(((c.map fun one=>al n fl bk lo (wo c one)).take i).map fun g=>decide (g=lo)).map V.bl)
     ⟨⟨_,rfl⟩,au hD _,aj,rfl⟩ (fun i zs σ' Hq _ h=>⟨SqL.of (h.2.1 _ _ ero),h.2.2.1⟩) ?_ ?_⟩
    ·rintro i zs x σ' Hq hx ⟨⟨u,rfl⟩,sq,eDq,rfl⟩
     obtain⟨a,g,rfl,hg,ea,_⟩:=gr.at hx
     refine gT ?_
     refine⟨_,rfl,_,rfl,a,su,g,lo,rfl,rfl,SqT.of (sq _ _ ea),SqT.of ((sz.trans sq) _ _ (s2 _ _ esu)),eDq,aD (by rw[Py,Py,Ql]; lia),⟨_,rfl⟩,aF sq hD _,aj,?_⟩
     rw[QF,hg,PQ,PQ]
     rfl
    ·rintro zs σ' Hq ⟨_,sq,eDq,rfl⟩
     rw[lur,Qk] at eDq
     refine⟨D,_,rfl,SqL.of eDq,_,rfl,?_⟩
     have hall:(((c.map fun one=>al n fl bk lo (wo c one)).map fun g=>decide (g=lo)).all fun b=>b)=decide (∀ one∈c,al n fl bk lo (wo c one)=lo):=by
      rw[VL,List.all_eq_true]
      simp
     rw[hall]
     by_cases e:∀ one∈c,al n fl bk lo (wo c one)=lo
     ·rw[decide_eq_true e]
      have efq:=sq _ _ efz
      refine jw ⟨_,rfl,.inl ⟨rfl,_,SqL.of efq⟩,_,rfl,_,rfl,su,ga,n,lo,_,rfl,by lia,(sz.trans sq) _ _ (s2 _ _ esu),low.1,sq _ _ egz,(dJ lb okb of low c).1.1,fun rr Hr sr' err=>⟨rr,c.map vN,rfl,.inr (SqT.of (err.trans (by rw[hcl]))),fun l hl=>?_⟩⟩
      have sn:=au hl (.lst (c.map vN))
      have sqr:=sq.trans sr'
      have efl:=(sr'.trans sn) _ _ efq
      refine⟨fo,uf,_,rfl,rfl,efl,aD (by lia),?_⟩
      ·refine Rc2 _ _ ⟨_,rfl,?_,fun a o na e'=>by rw[bx na]; exact (sqr.trans sn) _ _ e',aj,?_⟩
       ·exact aF (sz.trans (sqr.trans sn)) ffo _
       ·rw[if_pos e]
        have hl0:Hi l=none:=fresh (G:=Hr) (fun b o e'=>⟨o,sqr _ _ e'⟩) hl
        have lfn:LF Hi (upd Hr l (.lst (c.map vN))) uf Fs:=lfz.keep fun a c' ha e'=>(sqr.trans sn) _ _ e'
        exact (LF.snoc aj hl0 lfn).keep fun a c' ha e'=>by
         rw[bx (fun z=>by rw[z,efoi] at ha; cases ha)]
         exact e'
     ·rw[decide_eq_false e]
      refine gG (Rc2 _ _ ⟨uf,rfl,sz.trans sq,fun a o _ e'=>sq _ _ e',sq _ _ efz,?_⟩)
      rw[if_neg e]
      exact lfz.keep fun a c' ha e'=>sq _ _ e'
   case qf =>
   rintro σ Hw ⟨uf',rfl,sw,zw,efw,lfw⟩
   have erw:Hw ro=some (.lst ur):=zw _ _ nro.2.2 ero
   have esw:Hw se=some (.dT svs):=zw _ _ nfs.symm ezs
   have eaw:Hw ah=some (.lst ua'):=zw _ _ nfa.symm eza
   have ekw:Hw kn=some (.dT kvs'):=zw _ _ nfk.symm ekz
   have tzw:∀ a xs,Hz a=some (HO.tup xs)->Hw a=some (HO.tup xs):=fun a xs e=>zw a _ (fun z=>by rw[z,efz] at e; cases e) e
   have gaw:fD Hw ua' (A'.map fun c=>al n fl bk lo c):=gax'.bu fun a xs e=>tzw _ _ (tyz _ _ (tyo _ _ e))
   have grw:=gr.bu tzw
   have keptw:∀ a o,Hi a=some o->∃ o',Hw a=some o':=fun a o e=>by
    obtain⟨o',e'⟩:=keptz a o e
    by_cases z1:a=fo
    ·rw[z1]; exact⟨_,efw⟩
    ·exact⟨o',zw _ _ z1 e'⟩
   refine⟨_,rfl,ro,rfl,⟨_,SqL.of erw⟩,mj (K:=K) (a:=ro) (xs:=ur) (fun i σ Hv=>∃ (Nn:List (List Nat)) (svs2:List (List Key × V)) (ua2:List V),(∃ v10,σ=[some (.ref b),some (.ref f),some (.ref su),some (.ref wh),some (.ref fo),some (.ref kn),some (.ref se),some (.ref ah),some (.ref ga),some (.ref ro),v10])/\aM H3 Hv/\(∀ a o,a≠se->a≠ah->Hw a=some o->Hv a=some o)/\Hv se=some (.dT svs2)/\svs2.map (·.1)=(S++Nn).map (fun c=>kg (al n fl bk lo c))/\Hv ah=some (.lst ua2)/\fD Hv ua2 ((A'++Nn).map fun c=>al n fl bk lo c)/\Nn.Nodup/\(∀ d∈Nn,d ∉ S/\ris n lo (al n fl bk lo d)=d)/\∀ one∈c.take i,ris n lo (al n fl bk lo (wo c one))∈S++Nn)
    ⟨[],svs,ua',⟨_,rfl⟩,sw,fun a o _ _ e=>e,esw,by rw[SN]; exact esk,eaw,by rw[SN]; exact gaw,.nil,fun d hd=>(by cases hd),fun one ho=>(by rw[Ry] at ho; cases ho)⟩ (fun i σ Hv _ h=>?_) ?_ ?_⟩
   ·obtain⟨_,_,_,_,_,kp,_⟩:=h
    exact SqL.of (kp _ _ nro.2.1 nro.1 erw)
   ·rintro i x σ Hv hx ⟨Nn,svs2,ua2,⟨v10,rfl⟩,sv,kp,es2,ek2,ea2,g2,nn,nS,al2⟩
    obtain⟨a,g,rfl,hg,ea,_⟩:=grw.at hx
    rw[Qn] at hg
    obtain⟨one,hone,rfl⟩:=Option.map_eq_some_iff.mp hg
    have ea':Hv a=some (.tup ((al n fl bk lo (wo c one)).map V.int)):=kp _ _ (fun z=>by rw[z,esw] at ea; cases ea) (fun z=>by rw[z,eaw] at ea; cases ea) ea
    have hd:=Bm lb okb of low (wo c one)
    have key:Hv a=some (.tup ((kg (al n fl bk lo (wo c one))).map kV)):=by rw[JH]; exact ea'
    have nds:(S++Nn).Nodup:=List.nodup_append.mpr ⟨sr.nd,nn,fun a ha b hb' e=>(nS b hb').1 (e▸ha)⟩
    have lSN:(S++Nn).length<=64:=by
     have:=cW (m:=cO n) nds fun d hd'=>by
      have:ris n lo (al n fl bk lo d)=d:=by
       rcases List.mem_append.mp hd' with z | z
       ·exact sr.cl d z
       ·exact (nS d z).2
      rw[← this]
      exact eE _ n
     rw[dY] at this
     lia
    have lsv:svs2.length=(S++Nn).length:=by
     have:=congrArg Vz ek2
     rw[Py,Py] at this
     exact this
    have lua:=g2.length
    rw[Py,Qj] at lua
    have lA:A'.length<=64:=by
     have h1:=cW (m:=S) (List.nodup_append.mp sr.aN).1 fun d hd'=>(sr.aS d (List.mem_append.mpr (.inl hd'))).1
     rw[Qj] at lSN
     lia
    have nxt:∀ {X:List (List Nat)},(∀ d∈S++Nn,d∈X)->ris n lo (al n fl bk lo (wo c one))∈X->∀ o'∈c.take (i+1),ris n lo (al n fl bk lo (wo c o'))∈X:=fun {X} h1 h2 o' ho=>by
     rw[QF,hone,List.mem_append] at ho
     rcases ho with z | z
     ·exact h1 _ (al2 o' z)
     ·cases List.mem_singleton.mp z
      exact h2
    refine gN ?_
    refine⟨_,rfl,_,rfl,se,iR svs2 (kg (al n fl bk lo (wo c one))),rfl,Dw.t es2 key,_,rfl,?_⟩
    cases hv:iR svs2 (kg (al n fl bk lo (wo c one))) with
    | some v =>
     refine gG ⟨Nn,svs2,ua2,⟨_,rfl⟩,sv,kp,es2,ek2,ea2,g2,nn,nS,nxt (fun d z=>z) ?_⟩
     unfold iR at hv
     obtain⟨p,hp,_⟩:=Option.map_eq_some_iff.mp hv
     have k1:p.1=kg (al n fl bk lo (wo c one)):=by simpa using List.find?_some hp
     have k2:p.1∈svs2.map (·.1):=List.mem_map.mpr ⟨p,List.mem_of_find?_eq_some hp,rfl⟩
     rw[ek2] at k2
     obtain⟨d,hd1,hd2⟩:=List.mem_map.mp k2
     have hd3:=Gw (hd2.trans k1)
     have hd4:ris n lo (al n fl bk lo d)=d:=by
      rcases List.mem_append.mp hd1 with z | z
      ·exact sr.cl d z
      ·exact (nS d z).2
     rw[← hd3,hd4]
     exact hd1
    | none =>
     have dN:ris n lo (al n fl bk lo (wo c one)) ∉ S++Nn:=fun z=>by
      have:kg (al n fl bk lo (wo c one))∈svs2.map (·.1):=by
       rw[ek2]
       exact List.mem_map.mpr ⟨_,z,by rw[hd]⟩
      obtain⟨p,hp,e⟩:=List.mem_map.mp this
      unfold iR at hv
      exact List.find?_eq_none.mp (Option.map_eq_none_iff.mp hv) p hp (decide_eq_true e)
     refine jw ⟨_,rfl,_,rfl,se,_,rfl,Kh.t es2 key (aD (by lia)),?_⟩
     have ea3:upd Hv se (.dT (putK svs2 (kg (al n fl bk lo (wo c one))) (.bl true))) ah=some (.lst ua2):=by rw[bx nsa.symm]; exact ea2
     refine⟨_,rfl,.inl ⟨rfl,_,SqL.of ea3⟩,_,rfl,ah,ua2,_,rfl,rfl,ea3,aD (by rw[Qj] at lSN; lia),?_⟩
     refine⟨Nn++[ris n lo (al n fl bk lo (wo c one))],_,ua2++[.ref a],⟨_,rfl⟩,aF (aF sv se3 _) ah3 _,fun a' o' n1 n2 e'=>by rw[bx n2,bx n1]; exact kp _ _ n1 n2 e',by rw[bx nsa]; exact aj,?_,aj,?_,?_,fun d hd'=>?_,nxt (fun d z=>?_) ?_⟩
     ·rw[lX _ hv,PQ,ek2,← Tt,PQ (l₁:=S++Nn)]
      show _++[kg (al n fl bk lo (wo c one))]=_++[kg (al n fl bk lo (ris n lo (al n fl bk lo (wo c one))))]
      rw[hd]
     ·rw[← Tt,PQ]
      have t1:=nD (o:=.dT (putK svs2 (kg (al n fl bk lo (wo c one))) (.bl true))) es2
      refine fD.bu (bR ea3) (fD.snoc ?_ (by rw[iu lb okb of low]; lia) (g2.bu t1))
      show upd Hv se _ a=some (.tup ((al n fl bk lo (ris n lo (al n fl bk lo (wo c one)))).map V.int))
      rw[hd]
      exact t1 _ _ ea'
     ·exact List.nodup_append.mpr ⟨nn,by simp,fun x hx' y hy e=>dN (List.mem_append.mpr (.inr (by rw[← List.mem_singleton.mp hy,← e]; exact hx')))⟩
     ·rcases List.mem_append.mp hd' with z | z
      ·exact nS d z
      ·rw[List.mem_singleton.mp z]
       exact⟨fun q=>dN (List.mem_append.mpr (.inl q)),by rw[hd]⟩
     ·rw[← Tt]
      exact List.mem_append.mpr (.inl z)
     ·rw[← Tt]
      exact List.mem_append.mpr (.inr (List.mem_singleton.mpr rfl))
   ·rintro σ Hv ⟨Nn,svs2,ua2,⟨v10,rfl⟩,sv,kp,es2,ek2,ea2,g2,nn,nS,al2⟩
    rw[grw.length,Py,Qk] at al2
    have sr2:=De.turn lb okb of low sr nn nS al2 rfl
    have l2:=sr2.len
    rw[Qj] at l2 hm
    have l1:([c]:List (List Nat)).length=1:=rfl
    have tw:∀ a xs,Hw a=some (HO.tup xs)->Hv a=some (HO.tup xs):=fun a xs e=>kp _ _ (fun z=>by rw[z,esw] at e; cases e) (fun z=>by rw[z,eaw] at e; cases e) e
    refine⟨2 * 2 ^ n+(A'++Nn).length - 2 * (S++Nn).length,by rw[Qj,Qj]; lia,S++Nn,A'++Nn,_,kvs',svs2,ua2,uf',⟨_,_,_,rfl⟩,by rw[Qj,Qj]; lia,sv,fun a o e=>?_,sr2,kp _ _ nsk.symm nka ekw,knz.bu fun a xs e=>tw _ _ (tzw _ _ e),es2,ek2,ea2,g2,kp _ _ nfs nfa efw,lfw.keep fun a c' ha e=>kp _ _ (fun z=>by rw[z,esei] at ha; cases ha) (fun z=>by rw[z,eah] at ha; cases ha) e⟩
    obtain⟨o',e'⟩:=keptw a o e
    by_cases z1:a=se
    ·rw[z1]; exact⟨_,es2⟩
    ·by_cases z2:a=ah
     ·rw[z2]; exact⟨_,ea2⟩
     ·exact⟨o',kp _ _ z1 z2 e'⟩
section
variable {n:Nat} {fl lo:List Int} {bk:List (List Pl)}
theorem eO.uniq (hb:bk.length=n) (ok:okB bk) (hf:okG n fl) (hlo:Low n fl bk lo) {ks js:List (List Nat)} (h:eO n fl bk ks) (h':eO n fl bk js):ks=js:=by
 have m:∀ c,c∈ks ↔ c∈js:=fun c=>(h.1 lo hlo c).trans (h'.1 lo hlo c).symm
 have p1:=h.2
 have p2:=h'.2
 clear h h'
 induction ks generalizing js with
 | nil =>
  cases js with
  | nil=>rfl
  | cons x _=>exact absurd ((m x).mpr Qa) (by simp)
 | cons x ks ih =>
  cases js with
  | nil=>exact absurd ((m x).mp Qa) (by simp)
  | cons y js =>
   rw[R7] at p1 p2
   have irr:∀ {a b:List Nat},HT.lexLt (iN a) (iN b)=true->HT.lexLt (iN b) (iN a)=true->False:=fun h1 h2=>by
    have:=jl h1 h2
    rw[gJ] at this
    cases this
   have hxy:x=y:=by
    rcases List.mem_cons.mp ((m x).mp Qa) with z | z
    ·exact z
    ·rcases List.mem_cons.mp ((m y).mpr Qa) with z' | z'
     ·exact z'.symm
     ·exact (irr (p2.1 x z) (p1.1 y z')).elim
   subst hxy
   have ne:∀ {c},HT.lexLt (iN x) (iN c)=true->c≠x:=fun h e=>by
    rw[e,gJ] at h
    cases h
   refine congrArg _ (ih (fun c=>⟨fun h=>?_,fun h=>?_⟩) p1.2 p2.2)
   ·exact (List.mem_cons.mp ((m c).mp (Qg _ h))).resolve_left (ne (p1.1 c h))
   ·exact (List.mem_cons.mp ((m c).mpr (Qg _ h))).resolve_left (ne (p2.1 c h))
end
def cD (c:List Nat):Dm:=.lst ((iN c).map Dm.int)
theorem Ds {H:Hp} {a:Addr} {c:List Nat} (h:H a=some (.lst (c.map vN))) (l:c.length<=1000):Rep H (.ref a) (cD c):=by
 rw[eG] at h
 exact .lst h (by rw[Py,Py]; lia) (nR _)
theorem Hl (c:List Nat):(cD c).dep=1:=by
 unfold cD
 rw[Dm.dep,nJ]
theorem LF.rep {H0 H:Hp}:∀ {us:List V} {cs:List (List Nat)},LF H0 H us cs->(∀ c∈cs,c.length<=1000)->pI H us (cs.map cD)
 | _,_,.nil,_=>.nil
 | _,_,.cons h _ r,l=>.cons (Ds h (l _ Qa)) (LF.rep r fun c hc=>l c (Qg _ hc))
theorem Ac:∀ cs:List (List Nat),n8 (cs.map cD)<=1
 | []=>by rw[Vk,n8]; decide
 | c::cs=>by
  have:=Ac cs
  rw[QM,n8]
  have:(cD c).dep=1:=Hl c
  lia
theorem Mi {a b:List Nat} (h:iN a=iN b):a=b:=by
 rw[← cY a,← cY b,h]
theorem LF.mono {H0 H H':Hp} (s:aM H H') {us:List V} {cs:List (List Nat)} (h:LF H0 H us cs):LF H0 H' us cs:=h.keep fun a c _ q=>s _ _ q
theorem eO.few {n:Nat} {fl lo:List Int} {bk:List (List Pl)} {ks:List (List Nat)} (hlo:Low n fl bk lo) (h:eO n fl bk ks):ks.length<=2 ^ n/\∀ c∈ks,c.length<=n:=by
 refine⟨?_,fun c hc=>?_⟩
 ·have nd:ks.Nodup:=h.2.imp fun {a b} q e=>by
   rw[e,gJ] at q
   cases q
  have:=cW (m:=cO n) nd fun c hc=>by
   obtain⟨h1,h2,_⟩:=(h.1 lo hlo c).mp hc
   rw[← dq h1 h2]
   exact eE _ n
  rw[dY] at this
  exact this
 ·obtain⟨h1,h2,_⟩:=(h.1 lo hlo c).mp hc
  have:=o8 (m:=0) h1 fun k hk=>⟨QB _,h2 k hk⟩
  lia
def Kg (n:Nat) (fl:List Int) (bk:List (List Pl)) (hi:List Int):Prop:=okG n hi/\eX hi fl bk=hi/\∀ g,LeG g (eX g fl bk)->LeG g hi
open Classical in
def cl (n:Nat) (bk:List (List Pl)) (x:List Int):List Int:=if h:∃ y,Low n x bk y then Classical.choose h else []
section
variable {n:Nat} {fl hi:List Int} {bk:List (List Pl)}
theorem Kg.uniq {a b:List Int} (h:Kg n fl bk a) (h':Kg n fl bk b):a=b :=
 fJ (by rw[h.1.1,h'.1.1]) (h'.2.2 _ (by rw[h.2.1]; exact gR _)) (h.2.2 _ (by rw[h'.2.1]; exact gR _))
theorem bJ (hb:bk.length=n) (ok:okB bk) (hf:okG n fl) {m:Nat} (st:Stops (Fd fl bk) (rfF fl bk) m):Kg n fl bk (itF (Fd fl bk) (rfF fl bk) m) :=
 ⟨dG hb ok hf (dF hb ok hf) m,st.1,fun _ h=>nH hb ok hf h m⟩
theorem N6 {x y:List Int} (h:Low n x bk y):cl n bk x=y:=by
 have e:∃ y,Low n x bk y:=⟨y,h⟩
 unfold cl
 rw[dif_pos e]
 exact (Classical.choose_spec e).uniq h
theorem Mr (hb:bk.length=n) (ok:okB bk) {x:List Int} (hx:okG n x):Low n x bk (cl n bk x):=by
 obtain⟨m,_,st⟩:=kY hb ok hx
 have:=du hb ok hx st
 rw[N6 this]
 exact this
end
theorem cI.keep {n:Nat} {H:Hp} {D:Addr} {zs zs':List V} (hD:H D=some (.lst zs)):∀ {us:List V} {bs:List (List Pl)},cI n H us bs->(∀ u∈us,u≠.ref D)->cI n (upd H D (.lst zs')) us bs
 | _,_,.nil,_=>.nil
 | _,_,.cons (c:=c) h l p r,hn=>.cons (by rw[bx (fun e=>hn (.ref c) Qa (by rw[e]))]; exact h) l (p.bu (bR hD)) (cI.keep hD r fun u hu=>hn u (Qg _ hu))
theorem take_one {α:Type} {xs:List α} {i:Nat} {x:α} (h:xs[i]? = some x):xs.take (i+1)=xs.take i++[x]:=by
 rw[QF,h]
 rfl
abbrev ni:Stmt:=top 18
theorem yr:aW ["book","floor","one"] ["book","floor","one"] (aH ni):=⟨rfl,rfl,rfl,by decide+kernel,rfl,by decide+kernel,by decide+kernel⟩
def lO (bk:List (List Pl)) (k:Nat):List (List Pl):=bk.set k []
theorem bH (bk:List (List Pl)) (k:Nat):(lO bk k).length=bk.length:=List.length_set
theorem nP {bk:List (List Pl)} {k i:Nat} (h:i < bk.length):(lO bk k)[i]? = some (if i=k then [] else bk[i]):=by
 unfold lO
 rw[List.getElem?_set]
 by_cases e:k=i
 ·subst e
  rw[if_pos rfl,if_pos h,if_pos rfl]
 ·rw[if_neg e,if_neg (TF e),PJ h]
theorem qu {bk:List (List Pl)} {k:Nat} (ok:okB bk):okB (lO bk k):=fun ps h p hp=>by
 obtain⟨i,hi,rfl⟩:=RX h
 rw[bH] at hi
 have e:=nP (k:=k) hi
 rw[PJ (by rw[bH]; exact hi)] at e
 rw[QJ e] at hp
 by_cases z:i=k
 ·rw[if_pos z] at hp
  cases hp
 ·rw[if_neg z] at hp
  exact ok _ (Rg hi) p hp
inductive pH (vs:List V) (H:Hp) (Q:VK):Prop where
 | mk (b f:Addr) (n k:Nat) (bk:List (List Pl)) (fl:List Int) (z0:vs=[.ref b,.ref f,.int (k:Int)]) (z1:ou n H b bk) (z2:bk.length=n) (z3:H f=some (.tup (fl.map V.int))) (z4:okG n fl) (z5:∀ (m:Nat) (a:Addr) (H':Hp),Stops (Fd fl (lO bk k)) (rfF fl (lO bk k)) m->aM H H'->H' a=some (.tup ((itF (Fd fl (lO bk k)) (rfF fl (lO bk k)) m).map V.int))->Q (.ref a) H'):pH  vs H Q
def sO:Sp:=fun vs H Q _=>pH  vs H Q
theorem zc {k:Nat} (F:Fun K "without" "without" ni f fd) (B:Bt mg)
  (D_greatest:Df P w K mg base "greatest" k ["book","floor"] (ue rfF)):fj P w K mg base CX0 (k+1) f fd ["book","floor","one"] sO:=by
 refine F.ok yr (fun vs H Q E h=>?_) (fun cdv A outer s H vs Q E hr h=>?_)
 ·obtain⟨b,f,n,k,bk,fl,rfl,_⟩:=h
  rfl
 ·obtain⟨b,f,n,k,bk,fl,rfl,hB,lb,hf,of,q⟩:=h
  refine⟨_,(aC (aK (aY D_greatest hr (aa (bA (L:=["other","pledges"]) (F:=["one"]) (cap:=[2]) rfl (bj rfl rfl (by kernel_rfl)) (zg rfl B.enumerate_ (aa (pv 0) aq)) (fun _ _ _ _ _=>(dU (K:=K) 2 rfl rfl (aZ (aG (i:=0) (aP (by decide+kernel)) rfl (Qm rfl)) (aZ (aG (i:=1) (aP (by decide+kernel)) rfl (Qm rfl)) d8)))) (fun _ _ _ _ _=>bC) (fun _ _ _ _ _=>(xH (aV gO (pv 0) (pv 2) (bf _)) (bK aq) (pv 1)))) (aa (pv 1) aq))))),?_⟩
  obtain⟨us,hb,rb,l12⟩:=id hB
  have lu:=rb.length
  refine⟨_,rfl,b,us,rfl,hb,fun D hD=>An (K:=K) (a:=b) (xs:=us) (fun i zs σ' H2=>(∃ u v,σ'=[u,v,some (.int (k:Int))])/\aM H H2/\H2 D=some (.lst zs)/\(∀ u∈zs,u≠.ref D)/\cI n H2 zs ((lO bk k).take i))
   ⟨⟨_,_,rfl⟩,au hD _,aj,by simp,.nil⟩ (fun i zs σ' H2 _ h=>⟨SqL.of (h.2.1 _ _ hb),h.2.2.1⟩) ?_ ?_⟩
  ·rintro i zs x p σ' H2 hx hp ⟨⟨u,v,rfl⟩,sm,eD,hne,rz⟩
   obtain⟨c,as,ps,rfl,hps,hc,l100,rps⟩:=rb.get hx
   have hi:=(List.getElem?_eq_some_iff.mp hx).1
   have hib:i < bk.length:=by lia
   have lz:=rz.length
   rw[Ql,bH] at lz
   have zs1:zs.length < 1000:=by lia
   generalize eH3:upd H2 p _=H3
   obtain⟨g3,e3⟩:=aJ eH3 hp
   have s3:aM H H3:=sm.trans g3
   have ta:=nP (k:=k) hib
   have cD:∀ {a:Addr} {o:HO},H a=some o->V.ref a≠V.ref D:=fun h z=>by cases z; rw[hD] at h; cases h
   refine⟨p,_,rfl,SqT.of e3,rfl,_,_,rfl,_,_,rfl,rfl,?_⟩
   refine tT ?_
   refine⟨_,rfl,_,rfl,rfl,_,rfl,?_⟩
   by_cases e:i=k
   ·subst e
    rw[if_pos rfl] at ta
    rw[decide_eq_true rfl]
    refine jw ⟨small (by show 0<=1000; decide),fun l hl=>?_⟩
    have sn:=au hl (.lst [])
    have hlD:l≠D:=fun z=>by rw[z,g3 _ _ eD] at hl; cases hl
    refine⟨sn _ _ (g3 _ _ eD),aD (by lia),⟨_,_,rfl⟩,aF (s3.trans sn) hD _,aj,?_,?_⟩
    ·intro u hu
     rcases List.mem_append.mp hu with h | h
     ·exact hne u h
     ·rw[List.mem_singleton.mp h]
      exact fun z=>hlD (by cases z; rfl)
    ·rw[take_one ta]
     refine cI.keep (sn _ _ (g3 _ _ eD)) ((rz.mono (g3.trans sn)).snoc (as:=[]) aj (QB _) .nil) fun u hu=>?_
     rcases List.mem_append.mp hu with h | h
     ·exact hne u h
     ·rw[List.mem_singleton.mp h]
      exact fun z=>hlD (by cases z; rfl)
   ·rw[if_neg e] at ta
    rw[decide_eq_false (fun z=>e (by cases z; rfl))]
    refine gG ⟨_,rfl,g3 _ _ eD,aD (by lia),⟨_,_,rfl⟩,aF s3 hD _,aj,?_,?_⟩
    ·intro u hu
     rcases List.mem_append.mp hu with h | h
     ·exact hne u h
     ·rw[List.mem_singleton.mp h]
      exact cD hc
    ·rw[take_one ta,show bk[i]=ps by rw[PJ hib] at hps; exact QJ hps]
     refine cI.keep (g3 _ _ eD) ((rz.mono g3).snoc (s3 _ _ hc) l100 (rps.bu fun a xs q=>s3 a _ q)) fun u hu=>?_
     rcases List.mem_append.mp hu with h | h
     ·exact hne u h
     ·rw[List.mem_singleton.mp h]
      exact cD hc
  ·rintro zs σ' H2 ⟨_,sm,eD,hne,rz⟩
   rw[show us.length=(lO bk k).length by rw[bH]; exact lu,Qk] at rz
   exact⟨_,rfl,D,f,n,lO bk k,fl,rfl,⟨zs,eD,rz,by rw[bH]; exact l12⟩,by rw[bH]; exact lb,sm _ _ hf,of,fun m a H' _ st s1 ea=>q m a H' st (sm.trans s1) ea⟩
def oR (k:Nat) (hi lo:List Int):List Nat:=(P0 lo.length).filter fun j=>decide (j≠k) && decide (lo.getD j 0 < hi.getD j 0)
abbrev Ai:Stmt:=top 19
theorem uR:aW ["book","floor","one","whole","left"] ["book","floor","one"] (aH Ai):=⟨rfl,rfl,rfl,by decide+kernel,rfl,by decide+kernel,by decide+kernel⟩
inductive zz (vs:List V) (H:Hp) (Q:VK):Prop where
 | mk (b f:Addr) (n k:Nat) (bk:List (List Pl)) (fl:List Int) (z0:vs=[.ref b,.ref f,.int (k:Int)]) (z1:ou n H b bk) (z2:bk.length=n) (z3:H f=some (.tup (fl.map V.int))) (z4:okG n fl) (z5:∀ (m m':Nat) (r:Addr) (H':Hp),Stops (Fd fl bk) (rfF fl bk) m->Stops (Fd fl (lO bk k)) (rfF fl (lO bk k)) m'->aM H H'->H r=none->H' r=some (.lst ((oR k (itF (Fd fl bk) (rfF fl bk) m) (itF (Fd fl (lO bk k)) (rfF fl (lO bk k)) m')).map vN))->Q (.ref r) H'):zz  vs H Q
def Gv:Sp:=fun vs H Q _=>zz  vs H Q
theorem rm {p:Nat->Bool} (i:Nat):(P0 (i+1)).filter p=(P0 i).filter p++if p i=true then [i] else []:=by
 rw[SM,Wa]
 congr 1
 by_cases h:p i=true
 ·rw[if_pos h,List.filter_cons_of_pos h]; rfl
 ·rw[if_neg h,List.filter_cons_of_neg h]; rfl
theorem Ke {k:Nat} (F:Fun K "lost" "lost" Ai f fd) (B:Bt mg)
  (D_greatest:Df P w K mg base "greatest" k ["book","floor"] (ue rfF)) (D_without:Df P w K mg base "without" (k+1) ["book","floor","one"] sO):fj P w K mg base CX0 (k+2) f fd ["book","floor","one"] Gv:=by
 refine F.ok uR (fun vs H Q E h=>?_) (fun cdv A outer s H vs Q E hr h=>?_)
 ·obtain⟨b,f,n,k,bk,fl,rfl,_⟩:=h
  rfl
 ·obtain⟨b,f,n,k,bk,fl,rfl,hB,lb,hf,of,q⟩:=h
  refine⟨_,(aA (aU (i:=3) uR.nd rfl (Wk rfl) (aY D_greatest hr (aa (pv 0) (aa (pv 1) aq))))
 (aA (aU (i:=4) uR.nd rfl (Qm rfl) (aY D_without hr (aa (pv 0) (aa (pv 1) (aa (pv 2) aq)))))
 (aC (aK (bA (L:=["other","step"]) (F:=["one","whole"]) (cap:=[2,3]) rfl (bj rfl rfl (by kernel_rfl)) (pN rfl B.enumerate_ (aa (pv 4) aq)) (fun _ _ _ _ _=>(dU (K:=K) 2 rfl rfl (aZ (aG (i:=0) (aP (by decide+kernel)) rfl (Qm rfl)) (aZ (aG (i:=1) (aP (by decide+kernel)) rfl (Qm rfl)) d8)))) (fun _ _ _ _ _=>(vR (PW.pt (rY (aV Js (pv 0) (pv 2) (bf _)) (nU (aV Af (pv 1) (bh (r:=jP K) bW (pv 3) (pv 0) (fun _ _=>rfl)) (bf _))))))) (fun _ _ _ _ _=>(pv 0))))))),?_⟩
  have okb:=hB.okB
  refine⟨_,rfl,_,rfl,b,f,n,bk,fl,rfl,hB,lb,hf,of,fun m hi H1 _ st s1 e1=>?_⟩
  refine⟨_,rfl,_,rfl,_,rfl,b,f,n,k,bk,fl,rfl,hB.mono s1,lb,s1 _ _ hf,of,fun m' lo H2 st' s2 e2=>?_⟩
  have o1:=dG lb okb of (dF lb okb of) m
  have o2:=dG (by rw[bH]; exact lb) (qu (k:=k) okb) of (dF (by rw[bH]; exact lb) (qu (k:=k) okb) of) m'
  have q':=fun r H'=>q m m' r H' st st'
  clear q
  generalize itF (Fd fl bk) (rfF fl bk) m=gh at *
  generalize itF (Fd fl (lO bk k)) (rfF fl (lO bk k)) m'=gl at *
  have s12:aM H H2:=s1.trans s2
  refine⟨_,rfl,lo,_,rfl,SqT.of e2,fun D hD=>kJ (K:=K) (a:=lo) (xs:=gl.map V.int) (fun i zs σ' H3=>(∃ u v,σ'=[u,v,some (.int (k:Int)),some (.ref hi)])/\aM H2 H3/\H3 D=some (.lst zs)/\zs=((P0 i).filter fun j=>decide (j≠k) && decide (gl.getD j 0 < gh.getD j 0)).map vN)
   ⟨⟨_,_,rfl⟩,au hD _,aj,rfl⟩ (fun i zs σ' H3 _ h=>⟨SqT.of (h.2.1 _ _ e2),h.2.2.1⟩) ?_ ?_⟩
  ·rintro i zs x p σ' H3 hx hp ⟨⟨u,v,rfl⟩,sm,eD,ez⟩
   obtain⟨y,hy,rfl⟩:=int_at hx
   have hin:=(List.getElem?_eq_some_iff.mp hy).1
   generalize eH4:upd H3 p _=H4
   obtain⟨g4,e4⟩:=aJ eH4 hp
   have s4:aM H2 H4:=sm.trans g4
   refine⟨p,_,rfl,SqT.of e4,rfl,_,_,rfl,_,_,rfl,rfl,?_⟩
   have ef:=rm (p:=fun j=>decide (j≠k) && decide (gl.getD j 0 < gh.getD j 0)) i
   have gy:gl.getD i 0=y:=by rw[PL,hy]; rfl
   have hih:i < gh.length:=by rw[o1.1,← o2.1]; exact hin
   have gi:gh.getD i 0=gh[i]:=by rw[PL,PJ hih]; rfl
   have lz:zs.length<=i:=by
    rw[ez,Py]
    exact Q6 (Tg _ _) (by rw[Qs]; exact PX _)
   have l100:i<=1000:=by
    obtain⟨_,_,_,h⟩:=hB
    have:=o2.1
    lia
   refine⟨_,rfl,_,rfl,rfl,_,rfl,?_⟩
   by_cases e:i=k
   ·subst e
    rw[decide_eq_true rfl]
    refine gG (gG ⟨⟨_,_,rfl⟩,s4,g4 _ _ eD,?_⟩)
    rw[ef,if_neg (by simp),SN]
    exact ez
   ·rw[decide_eq_false (fun z=>e (by cases z; rfl))]
    refine jw ⟨_,rfl,_,rfl,_,rfl,hi,_,_,_,rfl,rfl,SqT.of ((s2.trans s4) _ _ e1),o6 hih,_,_,rfl,rfl,_,rfl,?_⟩
    by_cases c:y < gh[i]
    ·rw[decide_eq_true c]
     refine jw ⟨_,rfl,g4 _ _ eD,aD (by lia),⟨_,_,rfl⟩,aF s4 hD _,aj,?_⟩
     rw[ef,if_pos (by rw[gy,gi]; simp [e,c]),PQ,← ez]
     rfl
    ·rw[decide_eq_false c]
     refine gG ⟨⟨_,_,rfl⟩,s4,g4 _ _ eD,?_⟩
     rw[ef,if_neg (by rw[gy,gi]; simp [e,c]),SN]
     exact ez
  ·rintro zs σ' H3 ⟨_,sm,eD,ez⟩
   rw[Py] at ez
   exact q' D H3 (s12.trans sm) (s12.free hD) (by rw[eD,ez]; rfl)
def mvP (rs:List Nat) (p:Pl):Pl:=p.map fun x=>(x.1,ren (dh rs) x.2)
def mvB (n:Nat) (rs:List Nat) (bk:List (List Pl)):List (List Pl):=(P0 n).map fun j=>(bk.getD (ixP rs j) []).map (mvP rs)
def PlN (n:Nat) (bk:List (List Pl)):Prop:=∀ ps∈bk,∀ p∈ps,∀ x∈p,∃ (H:Hp) (v:V),iY n H v x.2
theorem dD.names {n:Nat} {H:Hp}:∀ {vs:List V} {p:Pl},dD n H vs p->∀ x∈p,∃ (H:Hp) (v:V),iY n H v x.2
 | _,_,.nil,x,h=>by cases h
 | _,_,.cons _ t r,x,h=>by
  rcases List.mem_cons.mp h with e | e
  ·rw[e]
   exact⟨_,_,t⟩
  ·exact dD.names r x e
theorem dI.names {n:Nat} {H:Hp}:∀ {as:List Addr} {ps:List Pl},dI n H as ps->∀ p∈ps,∀ x∈p,∃ (H:Hp) (v:V),iY n H v x.2
 | _,_,.nil,p,h=>by cases h
 | _,_,.cons a r,p,h=>by
  rcases List.mem_cons.mp h with e | e
  ·rw[e]
   obtain⟨_,vs,_,r'⟩:=a
   exact r'.names
  ·exact dI.names r p e
theorem cI.names {n:Nat} {H:Hp}:∀ {us:List V} {bk:List (List Pl)},cI n H us bk->PlN n bk
 | _,_,.nil,ps,h=>by cases h
 | _,_,.cons _ _ p r,ps,h=>by
  rcases List.mem_cons.mp h with e | e
  ·rw[e]
   exact p.names
  ·exact cI.names r ps e
theorem ou.names {n:Nat} {H:Hp} {b:Addr} {bk:List (List Pl)} (h:ou n H b bk):PlN n bk:=by
 obtain⟨_,_,r,_⟩:=h
 exact r.names
theorem Hg {n:Nat} {rs:List Nat} {g g':List Int} (hg:∀ i < n,g'.getD (dh rs i) 0=g.getD i 0):∀ (p:Pl) (f:Int),(∀ x∈p,∃ (H:Hp) (v:V),iY n H v x.2)->(mvP rs p).foldl (owS g') f=p.foldl (owS g) f
 | [],_,_=>rfl
 | x::p,f,h=>by
  show (mvP rs p).foldl (owS g') (owS g' f (x.1,ren (dh rs) x.2))=p.foldl (owS g) (owS g f x)
  have e:owS g' f (x.1,ren (dh rs) x.2)=owS g f x:=by
   obtain⟨_,_,t⟩:=h x Qa
   unfold owS
   rw[Bq hg t]
  rw[e]
  exact Hg hg p _ fun y hy=>h y (Qg _ hy)
theorem Lj {n:Nat} {rs:List Nat} {g g':List Int} (hg:∀ i < n,g'.getD (dh rs i) 0=g.getD i 0) {ps:List Pl} (h:∀ p∈ps,∀ x∈p,∃ (H:Hp) (v:V),iY n H v x.2) (f:Int):duF g' f (ps.map (mvP rs))=duF g f ps:=by
 unfold duF
 rw[RQ]
 exact congrArg (fun l=>Vr max f l) (SQ fun p hp=>Hg hg p 0 (h p hp))
theorem KC (rs:List Nat) (p:Pl):lsF (mvP rs p)=lsF p:=by
 unfold lsF mvP
 rw[RQ]
 rfl
theorem KQ (rs:List Nat) (ps:List Pl) (f:Int):rfS f (ps.map (mvP rs))=rfS f ps:=by
 unfold rfS
 rw[RQ]
 exact congrArg (fun l=>Vr max f l) (SQ fun p _=>KC rs p)
section
variable {n:Nat} {rs:List Nat} {bk:List (List Pl)} {fl lo hi:List Int}
theorem FP {a b:List Int} (ha:a.length=n) (hb:b.length=n) (h:∀ i < n,a.getD i 0=b.getD i 0):a=b :=
 fJ (by lia) (oH ha hb fun i hi=>by rw[h i hi]; exact RC _) (oH hb ha fun i hi=>by rw[h i hi]; exact RC _)
theorem fc (g:List Int):(cj n rs g).length=n:=by unfold cj; rw[Py,Qs]
theorem eZ (g:List Int) {j:Nat} (hj:j < n):(cj n rs g).getD j 0=g.getD (ixP rs j) 0:=by
 unfold cj
 rw[PL,Qn,RM hj]
 rfl
theorem bO:(mvB n rs bk).length=n:=by unfold mvB; rw[Py,Qs]
theorem Cj {j:Nat} (hj:j < n):(mvB n rs bk).getD j []=(bk.getD (ixP rs j) []).map (mvP rs):=by
 unfold mvB
 rw[PL,Qn,RM hj]
 rfl
theorem lQ (h:rs.Perm (P0 n)) {j:Nat} (hj:j < n):ixP rs j < n:=by
 have:=Mg h (ixP rs j) (List.mem_map.mpr ⟨j,List.mem_range.mpr hj,rfl⟩)
 exact this
theorem jz (h:rs.Perm (P0 n)) {j:Nat} (hj:j < n):dh rs (ixP rs j)=j:=by
 obtain⟨_,_,_,hm⟩:=cR h
 unfold dh
 rw[PL,(tM (hm j hj)).1]
 rfl
theorem lJ (h:rs.Perm (P0 n)) {i:Nat} (hi:i < n):ixP rs (dh rs i)=i:=by
 obtain⟨nd,hl,hv,_⟩:=cR h
 rw[Dp hl hi]
 exact G9 nd (by lia)
theorem zE (h:rs.Perm (P0 n)) {i:Nat} (hi:i < n):dh rs i < n:=by
 obtain⟨_,hl,hv,_⟩:=cR h
 exact hv _ (qI (by lia))
theorem Et (hn:PlN n bk) (i:Nat):∀ p∈bk.getD i [],∀ x∈p,∃ (H:Hp) (v:V),iY n H v x.2:=fun p hp=>by
 by_cases h:i < bk.length
 ·rw[PL,PJ h] at hp
  exact hn _ (Rg h) p hp
 ·rw[PL,Rk (by lia)] at hp
  cases hp
theorem jd (h:rs.Perm (P0 n)) {g:List Int} (hg:okG n g):okG n (cj n rs g) :=
 pB (fc g) fun i hi=>by rw[eZ g hi]; exact dB hg (lQ h hi)
theorem Gm {p:Pl} (h:okP p):okP (mvP rs p):=by
 obtain⟨h1,h2,h3,h4⟩:=h
 refine⟨fun z=>h1 (List.map_eq_nil_iff.mp z),by unfold mvP; rw[Py]; exact h2,?_,fun x hx=>?_⟩
 ·unfold mvP
  rw[RQ]
  exact h3
 ·obtain⟨y,hy,rfl⟩:=List.mem_map.mp hx
  obtain⟨a,b,c⟩:=h4 y hy
  exact⟨a,b,by show (ren (dh rs) y.2).dep<=4; rw[vo]; exact c⟩
theorem o4 (ok:okB bk):okB (mvB n rs bk):=fun ps hps p hp=>by
 obtain⟨j,_,rfl⟩:=List.mem_map.mp hps
 obtain⟨p0,h0,rfl⟩:=List.mem_map.mp hp
 refine Gm ?_
 by_cases h:ixP rs j < bk.length
 ·rw[PL,PJ h] at h0
  exact ok _ (Rg h) p0 h0
 ·rw[PL,Rk (by lia)] at h0
  cases h0
theorem xx (h:rs.Perm (P0 n)) (hb:bk.length=n) (ok:okB bk) (hn:PlN n bk) (hf:okG n fl) (g:List Int):eX (cj n rs g) (cj n rs fl) (mvB n rs bk)=cj n rs (eX g fl bk):=by
 have of':=jd h hf
 refine FP (fO bO (o4 ok) of' _).1 (fc _) fun i hi=>?_
 rw[jo bO of' _ hi,eZ _ hi,eZ _ hi,Cj hi,Lj (mG h g) (Et hn _),jo hb hf g (lQ h hi)]
theorem KH {fl:List Int} (hb:bk.length=n) (hf:fl.length=n) {i:Nat} (hi:i < n):(rfF fl bk).getD i 0=rfS (fl.getD i 0) (bk.getD i []):=by
 have h1:i < fl.length:=by lia
 have h2:i < bk.length:=by lia
 unfold rfF
 rw[fH _ h1 h2,Fx h2]
theorem FT (h:rs.Perm (P0 n)) (hb:bk.length=n) (ok:okB bk) (hf:okG n fl):rfF (cj n rs fl) (mvB n rs bk)=cj n rs (rfF fl bk):=by
 have of':=jd h hf
 refine FP (dF bO (o4 ok) of').1 (fc _) fun i hi=>?_
 rw[KH bO of'.1 hi,eZ _ hi,eZ _ hi,Cj hi,KQ,KH hb hf.1 (lQ h hi)]
theorem za (h:rs.Perm (P0 n)) (hb:bk.length=n) (ok:okB bk) (hn:PlN n bk) (hf:okG n fl) (x:List Int):∀ k,itF (Fd (cj n rs fl) (mvB n rs bk)) (cj n rs x) k=cj n rs (itF (Fd fl bk) x k)
 | 0=>rfl
 | k+1=>by
  show eX (itF (Fd (cj n rs fl) (mvB n rs bk)) (cj n rs x) k) (cj n rs fl) (mvB n rs bk)=cj n rs (eX (itF (Fd fl bk) x k) fl bk)
  rw[za h hb ok hn hf x k,xx h hb ok hn hf]
theorem Bs (h:rs.Perm (P0 n)) {a b:List Int} (ha:a.length=n) (hb:b.length=n) (e:cj n rs a=cj n rs b):a=b:=FP ha hb fun i hi=>by rw[← mG h a i hi,← mG h b i hi,e]
theorem my (h:rs.Perm (P0 n)) (hb:bk.length=n) (ok:okB bk) (hn:PlN n bk) (hf:okG n fl) {x:List Int} (hx:okG n x) {m:Nat} (st:Stops (Fd fl bk) x m):Stops (Fd (cj n rs fl) (mvB n rs bk)) (cj n rs x) m:=by
 refine⟨?_,fun j hj e=>?_⟩
 ·rw[za h hb ok hn hf]
  show eX (cj n rs (itF (Fd fl bk) x m)) (cj n rs fl) (mvB n rs bk)=_
  rw[xx h hb ok hn hf,show eX (itF (Fd fl bk) x m) fl bk=itF (Fd fl bk) x m from st.1]
 ·rw[za h hb ok hn hf] at e
  have e:eX (cj n rs (itF (Fd fl bk) x j)) (cj n rs fl) (mvB n rs bk)=cj n rs (itF (Fd fl bk) x j):=e
  rw[xx h hb ok hn hf] at e
  exact st.2 j hj (Bs h (fO hb ok hf _).1 (dG hb ok hf hx j).1 e)
theorem Bu (h:rs.Perm (P0 n)) (hb:bk.length=n) (ok:okB bk) (hn:PlN n bk) (hf:okG n fl) (x:List Int) (m:Nat):cT (Fd (cj n rs fl) (mvB n rs bk)) (cj n rs x) m=(cT (Fd fl bk) x m).map (cj n rs):=by
 unfold cT
 rw[RQ]
 exact SQ fun k _=>za h hb ok hn hf x k
theorem zL (h:rs.Perm (P0 n)) (hb:bk.length=n) (ok:okB bk) (hn:PlN n bk) (hf:okG n fl) (hl:Low n fl bk lo):Low n (cj n rs fl) (mvB n rs bk) (cj n rs lo):=by
 obtain⟨m,_,st⟩:=kY hb ok hf
 have e:=(du hb ok hf st).uniq hl
 have l:=du bO (o4 ok) (jd h hf) (my h hb ok hn hf hf st)
 rw[za h hb ok hn hf,e] at l
 exact l
theorem zG (h:rs.Perm (P0 n)) (hb:bk.length=n) (ok:okB bk) (hn:PlN n bk) (hf:okG n fl) (hh:Kg n fl bk hi):Kg n (cj n rs fl) (mvB n rs bk) (cj n rs hi):=by
 obtain⟨m,_,st⟩:=kE hb ok hf
 have e:=(bJ hb ok hf st).uniq hh
 have st':=my h hb ok hn hf (dF hb ok hf) st
 rw[← FT h hb ok hf] at st'
 have l:=bJ bO (o4 ok) (jd h hf) st'
 rw[FT h hb ok hf,za h hb ok hn hf,e] at l
 exact l
theorem CT (h:rs.Perm (P0 n)) {a b:List Int} (ha:a.length=n) (hb:b.length=n):LeG (cj n rs a) (cj n rs b) ↔ LeG a b:=by
 constructor
 ·intro l
  refine oH ha hb fun i hi=>?_
  rw[← mG h a i hi,← mG h b i hi]
  exact l _
 ·intro l
  refine oH (fc a) (fc b) fun i hi=>?_
  rw[eZ a hi,eZ b hi]
  exact l _
def Kf (n:Nat) (rs:List Nat) (w:List Int):List Int:=(P0 n).map fun i=>w.getD (dh rs i) 0
theorem J7 (w:List Int):(Kf n rs w).length=n:=by unfold Kf; rw[Py,Qs]
theorem Dq (w:List Int) {i:Nat} (hi:i < n):(Kf n rs w).getD i 0=w.getD (dh rs i) 0:=by
 unfold Kf
 rw[PL,Qn,RM hi]
 rfl
theorem Iz (h:rs.Perm (P0 n)) {w:List Int} (hw:w.length=n):cj n rs (Kf n rs w)=w:=FP (fc _) hw fun i hi=>by rw[eZ _ hi,Dq _ (lQ h hi),jz h hi]
theorem LQ (h:rs.Perm (P0 n)) {w:List Int} (hw:okG n w):okG n (Kf n rs w):=pB (J7 w) fun i hi=>by rw[Dq w hi]; exact dB hw (zE h hi)
theorem Hm (h:rs.Perm (P0 n)) (hb:bk.length=n) (ok:okB bk) (hn:PlN n bk) (hf:okG n fl) (hl:okG n lo) {c d:List Nat} (hcd:∀ i < n,dh rs i∈d ↔ i∈c) {z:List Int} (hz:okG n z):InS n (cj n rs fl) (mvB n rs bk) (cj n rs lo) d (cj n rs z) ↔ InS n fl bk lo c z:=by
 have e:=xx h hb ok hn hf z
 constructor
 ·rintro⟨_,h2,h3,h4⟩
  rw[e] at h4
  refine⟨hz,fun i hi hc=>?_,(CT h hl.1 hz.1).mp h3,(CT h hz.1 (fO hb ok hf z).1).mp h4⟩
  have:=h2 (dh rs i) (zE h hi) fun q=>hc ((hcd i hi).mp q)
  rw[mG h z i hi,mG h lo i hi] at this
  exact this
 ·rintro⟨_,h2,h3,h4⟩
  refine⟨jd h hz,fun i hi hd=>?_,(CT h hl.1 hz.1).mpr h3,by rw[e]; exact (CT h hz.1 (fO hb ok hf z).1).mpr h4⟩
  rw[eZ z hi,eZ lo hi]
  refine h2 _ (lQ h hi) fun q=>hd ?_
  have:=(hcd _ (lQ h hi)).mpr q
  rw[jz h hi] at this
  exact this
theorem Ih (h:rs.Perm (P0 n)) (hb:bk.length=n) (ok:okB bk) (hn:PlN n bk) (hf:okG n fl) (hl:Low n fl bk lo) {c d:List Nat} (hcd:∀ i < n,dh rs i∈d ↔ i∈c):al n (cj n rs fl) (mvB n rs bk) (cj n rs lo) d=cj n rs (al n fl bk lo c):=by
 have m:=dJ hb ok hf hl c
 refine (Jr bO (o4 ok) (jd h hf) (zL h hb ok hn hf hl) ⟨(Hm h hb ok hn hf hl.1 hcd m.1.1).mpr m.1,fun w hw=>?_⟩).symm
 have ob:=LQ h hw.1
 have e:=Iz h hw.1.1
 rw[← e] at hw
 rw[← e]
 exact (CT h ob.1 m.1.1.1).mpr (m.2 _ ((Hm h hb ok hn hf hl.1 hcd ob).mp hw))
theorem Ci (h:rs.Perm (P0 n)) (hb:bk.length=n) (ok:okB bk) (hn:PlN n bk) (hf:okG n fl) (hl:Low n fl bk lo) {c d:List Nat} (hc:∀ i∈c,i < n) (hd:∀ i∈d,i < n) (hcd:∀ i < n,dh rs i∈d ↔ i∈c):Knot n (cj n rs fl) (mvB n rs bk) (cj n rs lo) d ↔ Knot n fl bk lo c:=by
 have inj:∀ {a:List Nat},(cj n rs (al n fl bk lo a)=cj n rs lo ↔ al n fl bk lo a=lo):=fun {a}=>⟨fun e=>Bs h (iu hb ok hf hl a) hl.1.1 e,fun e=>by rw[e]⟩
 have sub:∀ k < n,∀ i < n,dh rs i∈(d.filter fun i=>decide (i≠dh rs k)) ↔ i∈(c.filter fun i=>decide (i≠k)):=fun k hk i hi=>by
  rw[VH,VH,hcd i hi,decide_eq_true_iff,decide_eq_true_iff]
  refine and_congr_right fun _=>not_congr ⟨fun e=>?_,fun e=>by rw[e]⟩
  rw[← lJ h hi,← lJ h hk,e]
 unfold Knot
 rw[Ih h hb ok hn hf hl hcd]
 refine and_congr (not_congr inj) ⟨fun q k hk=>?_,fun q one ho=>?_⟩
 ·have hk':=hc k hk
  have:=q (dh rs k) ((hcd k hk').mpr hk)
  rw[Ih h hb ok hn hf hl (sub k hk')] at this
  exact inj.mp this
 ·have ho':=hd one ho
  have hx:=lQ h ho'
  have e:=jz h ho'
  have:=q (ixP rs one) ((hcd _ hx).mp (by rw[e]; exact ho))
  have s:=sub _ hx
  rw[e] at s
  rw[Ih h hb ok hn hf hl s]
  exact inj.mpr this
def mvC (rs c:List Nat):List Nat:=mJ (c.map (dh rs))
theorem rA (h:rs.Perm (P0 n)) {c:List Nat} (hc:∀ i∈c,i < n) (hp:c.Pairwise (· < ·)):(mvC rs c).Pairwise (· < ·)/\(∀ i∈mvC rs c,i < n)/\∀ i < n,dh rs i∈mvC rs c ↔ i∈c:=by
 obtain⟨nd,hl,hv,_⟩:=cR h
 have mem:∀ i,i∈mvC rs c ↔ ∃ k∈c,dh rs k=i:=fun i=>by
  unfold mvC
  rw[(cG _).mem_iff,List.mem_map]
 refine⟨?_,fun i hi=>?_,fun i hi=>?_⟩
 ·have nd':(c.map (dh rs)).Nodup:=by
   show (c.map (dh rs)).Pairwise (·≠·)
   rw[RP]
   refine Tw (fun {a b} ha hb hab e=>?_) hp
   have:=lJ h (hc a ha)
   rw[e,lJ h (hc b hb)] at this
   lia
  have ndS:(mvC rs c).Nodup:=(cG _).nodup_iff.mpr nd'
  exact ((dR _).and ndS).imp fun q=>by lia
 ·obtain⟨k,hk,e⟩:=(mem i).mp hi
  rw[← e]
  exact zE h (hc k hk)
 ·rw[mem]
  constructor
  ·rintro⟨k,hk,e⟩
   have:=lJ h (hc k hk)
   rw[e,lJ h hi] at this
   rw[this]
   exact hk
  ·exact fun q=>⟨i,q,rfl⟩
theorem Ek (h:rs.Perm (P0 n)) {c:List Nat} (hc:∀ i∈c,i < n) (hp:c.Pairwise (· < ·)):mvC rs (mJ (c.map (ixP rs)))=c:=Es (fun i hi=>jz h hi) hc hp
theorem IV (h:rs.Perm (P0 n)) {c d:List Nat} (hc:∀ i∈c,i < n) (hp:c.Pairwise (· < ·)) (hd:∀ i∈d,i < n) (hq:d.Pairwise (· < ·)) (e:mvC rs c=mvC rs d):c=d:=by
 rw[← dq hp hc,← dq hq hd]
 refine Wg fun i hi=>?_
 have hi:=List.mem_range.mp hi
 have:=((rA h hc hp).2.2 i hi).symm.trans ((by rw[e]:dh rs i∈mvC rs c ↔ dh rs i∈mvC rs d).trans ((rA h hd hq).2.2 i hi))
 by_cases q:i∈c
 ·rw[decide_eq_true q,decide_eq_true (this.mp q)]
 ·rw[decide_eq_false q,decide_eq_false fun z=>q (this.mpr z)]
theorem DG (h:rs.Perm (P0 n)) (hb:bk.length=n) (ok:okB bk) (hn:PlN n bk) (hf:okG n fl) (hl:Low n fl bk lo) {ks js:List (List Nat)} (hk:eO n fl bk ks) (mem:∀ d,d∈js ↔ ∃ c∈ks,mvC rs c=d) (srt:js.Pairwise fun c d=>HT.lexLt (iN c) (iN d)=true):eO n (cj n rs fl) (mvB n rs bk) js:=by
 have low':=zL h hb ok hn hf hl
 refine⟨fun lo' hlo' d=>?_,srt⟩
 rw[hlo'.uniq low',mem]
 constructor
 ·rintro⟨c,hc,rfl⟩
  obtain⟨h1,h2,h3⟩:=(hk.1 lo hl c).mp hc
  obtain⟨m1,m2,m3⟩:=rA h h2 h1
  exact⟨m1,m2,(Ci h hb ok hn hf hl h2 m2 m3).mpr h3⟩
 ·rintro⟨h1,h2,h3⟩
  have eb:=Ek h h2 h1
  have inv:∀ i∈mJ (d.map (ixP rs)),i < n:=fun i hi=>by
   obtain⟨k,hk',e⟩:=List.mem_map.mp ((cG _).mem_iff.mp hi)
   rw[← e]
   exact lQ h (h2 k hk')
  have ris:(mJ (d.map (ixP rs))).Pairwise (· < ·):=by
   have nd':(d.map (ixP rs)).Nodup:=by
    show (d.map (ixP rs)).Pairwise (·≠·)
    rw[RP]
    refine Tw (fun {a b} ha hb hab e=>?_) h1
    have:=jz h (h2 a ha)
    rw[e,jz h (h2 b hb)] at this
    lia
   exact ((dR _).and ((cG _).nodup_iff.mpr nd')).imp fun q=>by lia
  have m3:=(rA h inv ris).2.2
  rw[eb] at m3
  exact⟨_,(hk.1 lo hl _).mpr ⟨ris,inv,(Ci h hb ok hn hf hl inv h2 m3).mp h3⟩,eb⟩
theorem Dt {c d:List Nat} (hc:∀ i∈c,i < n) (hp:c.Pairwise (· < ·)) (hd:∀ i∈d,i < n) (hq:d.Pairwise (· < ·)) (e:∀ i < n,i∈c ↔ i∈d):c=d:=by
 rw[← dq hp hc,← dq hq hd]
 refine Wg fun i hi=>?_
 have:=e i (List.mem_range.mp hi)
 by_cases q:i∈c
 ·rw[decide_eq_true q,decide_eq_true (this.mp q)]
 ·rw[decide_eq_false q,decide_eq_false fun z=>q (this.mpr z)]
theorem Jg (h:rs.Perm (P0 n)) (hb:bk.length=n) {k:Nat} (hk:k < n):mvB n rs (lO bk k)=lO (mvB n rs bk) (dh rs k):=by
 refine Xr fun j=>?_
 by_cases hj:j < n
 ·rw[nP (by rw[bO]; exact hj)]
  unfold mvB
  rw[Qn,RM hj,List.getElem_map,List.getElem_range]
  have hx:=lQ h hj
  have ht:=nP (bk:=bk) (k:=k) (i:=ixP rs j) (by lia)
  show some (((lO bk k).getD (ixP rs j) []).map (mvP rs))=_
  rw[PL,ht]
  by_cases e:ixP rs j=k
  ·have:j=dh rs k:=by rw[← e,jz h hj]
   rw[if_pos e,if_pos this]
   rfl
  ·have:j≠dh rs k:=fun z=>e (by rw[z,lJ h hk])
   rw[if_neg e,if_neg this,Fx (by lia)]
   rfl
 ·rw[Rk (by rw[bO]; lia),Rk (by rw[bH,bO]; lia)]
theorem JB (h:rs.Perm (P0 n)) {a b:List Int} (ha:a.length=n) (hb:b.length=n) {k:Nat} (hk:k < n):oR (dh rs k) (cj n rs a) (cj n rs b)=mvC rs (oR k a b):=by
 have mem:∀ {k:Nat} {a b:List Int},b.length=n->∀ i,i∈oR k a b ↔ i < n/\i≠k/\b.getD i 0 < a.getD i 0:=fun {k a b} hb i=>by
  unfold oR
  rw[VH,List.mem_range,hb,Rz,decide_eq_true_iff,decide_eq_true_iff]
 have ris:∀ {k:Nat} {a b:List Int},(oR k a b).Pairwise (· < ·):=List.pairwise_lt_range.filter _
 have lt:∀ i∈oR k a b,i < n:=fun i hi=>((mem hb i).mp hi).1
 obtain⟨m1,m2,m3⟩:=rA h lt ris
 refine Dt (fun i hi=>((mem (fc b) i).mp hi).1) ris m2 m1 fun i hi=>?_
 have hx:=lQ h hi
 have e:=m3 _ hx
 rw[jz h hi] at e
 rw[e,mem hb,mem (fc b),eZ a hi,eZ b hi]
 refine⟨fun q=>⟨hx,fun z=>q.2.1 (by rw[← z,jz h hi]),q.2.2⟩,fun q=>⟨hi,fun z=>q.2.1 (by rw[z,lJ h hk]),q.2.2⟩⟩
end
theorem Lk {X:Cx} {o e:Expr} {es:List Expr} {to:TE} {t:TA} {name:Rx} {apos cpos:Vo} {T id:String} {r:V->List V->Hp->VK->Prop} (K:Qu) (hK:X.K=K) (pa:PlainAttrs T) (slot:Slot T name id) (hty:typeOf (.builtin id)=pure (.type "method_descriptor")) (hm:MtR X id r) (ho:PE X o to) (ha:PA X (e::es) t)
  (hbase:attributeBase o name X.env (Tc o X.env)=Tc o X.env:=by rfl)
  (hfew:((Uq cpos (Qz (e::es) X.env)).all (fun x=>!x.1) && (backToKw cpos (keywordEach [] X.env)).all (fun x=>x.1.isSome)
   && decide ((e::es).length+([]:List Keyword).length+(if ([]:List Keyword).isEmpty then 0 else 1) < 30))=true:=by rfl)
  (hline:(apos.endLine == cpos.line)=true:=by rfl) (hs:Qz (e::es) X.env=(false,Tc e X.env)::Qz es X.env:=by rfl) (hplain:(Uq cpos (Qz es X.env)).any (·.1)=false:=by rfl) :
  PE X (.Call (.Attribute o name apos) (e::es) [] cpos) (tBM K T r to t):=by
 subst hK
 exact j8 pa slot hty hm ho ha hbase hfew hline hs hplain
abbrev jj:Stmt:=top 41
theorem tQ:aW ["_law_giving_here","_law_row"] ["_law_giving_here","_law_row"] (aH jj):=⟨rfl,rfl,rfl,by decide+kernel,rfl,by decide+kernel,by decide+kernel⟩
inductive wH (vs:List V) (H:Hp) (Q:VK):Prop where
 | mk (g r:Addr) (n:Nat) (x:List Int) (rs:List Nat) (z0:vs=[.ref g,.ref r]) (z1:n<=12) (z2:H g=some (.tup (x.map V.int))) (z3:x.length=n) (z4:H r=some (.lst (rs.map vN))) (z5:rs.Perm (P0 n)) (z6:∀ (a:Addr) (H':Hp),aM H H'->H' a=some (.tup ((cj n rs x).map V.int))->Q (.ref a) H'):wH  vs H Q
def CK:Sp:=fun vs H Q _=>wH  vs H Q
theorem sU (F:Fun K "_law_moved" "_law_moved" jj f fd) (B:Bt mg):fj P w K mg base CX0 1 f fd ["_law_giving_here","_law_row"] CK:=by
 refine F.ok tQ (fun vs H Q E h=>?_) (fun cdv A outer s H vs Q E hr h=>?_)
 ·obtain⟨g,r,n,x,rs,rfl,_⟩:=h
  rfl
 ·obtain⟨g,r,n,x,rs,rfl,n12,hg,lx,hrw,pm,q⟩:=h
  refine⟨_,(aC (aK (bG (r:=fC K) bB rfl B.tuple_ bQ (aa (bA (L:=["_law_one"]) (F:=["_law_giving_here","_law_row"]) (cap:=[0,1]) rfl (bj rfl rfl (by kernel_rfl)) (cL rfl B.range_ (aa (aL (r:=yg K) cC rfl B.len_ ie (aa (pv 1) aq)) aq)) (fun _ _ _ _ _=>(aG (i:=0) (aP (by decide+kernel)) rfl (Qm rfl))) (fun _ _ _ _ _=>bC) (fun _ _ _ _ _=>(bh (r:=jP K) bW (pv 1) (Lk K rfl QH PySem.F.slot_list_index PySem.F.type_list_index wX (pv 2) (aa (pv 0) aq)) (fun _ _=>rfl)))) aq)))),?_⟩
  obtain⟨nd,hl,hv,hm⟩:=cR pm
  have el:((rs.map vN).length:Nat)=n:=by rw[Py,hl]
  refine⟨_,rfl,r,_,rfl,.inl (SqL.of hrw),_,rfl,by lia,by lia,fun D hD=>dw (lo:=0) (n:=(((rs.map vN).length:Nat):Int).toNat) (fun i zs σ' H2=>(∃ u,σ'=[u,some (.ref g),some (.ref r)])/\aM H H2/\H2 D=some (.lst zs)/\zs=((P0 i).map fun j=>x.getD (ixP rs j) 0).map V.int)
   ⟨⟨_,rfl⟩,au hD _,aj,rfl⟩ (fun i zs σ' H2 _ h=>h.2.2.1) ?_ ?_⟩
  ·rintro i zs σ' H2 hi ⟨⟨u,rfl⟩,sm,eD,rfl⟩
   have hin:i < n:=by lia
   have hx:=lQ pm hin
   refine gT ?_
   rw[Tu]
   refine⟨_,rfl,_,rfl,.inl ⟨rfl,_,SqL.of (sm _ _ hrw)⟩,_,rfl,?_⟩
   dsimp only [LK]
   refine wC (sm _ _ hrw) (hm i hin) ?_
   refine⟨g,_,_,_,rfl,rfl,SqT.of (sm _ _ hg),o6 (by lia),eD,?_,⟨_,rfl⟩,aF sm hD _,aj,?_⟩
   ·rw[Py,Py,Qs]
    exact aD (by lia)
   ·rw[SM,PQ,PQ]
    congr 1
    show[V.int _]=[V.int (x.getD (ixP rs i) 0)]
    rw[PL,PJ (by lia)]
    rfl
  ·rintro zs σ' H2 ⟨_,sm,eD,rfl⟩
   refine⟨D,_,rfl,.inl ⟨SqL.of eD,fun a ha=>q a _ (sm.trans (au ha _)) ?_⟩⟩
   rw[aj]
   have e:((((rs.map vN).length:Nat):Int)).toNat=n:=by lia
   rw[e]
   rfl
abbrev fB:Stmt:=top 42
theorem cQ:aW ["_law_book_here","_law_row","_law_found","_law_one","_law_pledges_of"] ["_law_book_here","_law_row"] (aH fB):=⟨rfl,rfl,rfl,by decide+kernel,rfl,by decide+kernel,by decide+kernel⟩
inductive tD (vs:List V) (H:Hp) (Q:VK):Prop where
 | mk (b r:Addr) (n:Nat) (bk:List (List Pl)) (rs:List Nat) (z0:vs=[.ref b,.ref r]) (z1:ou n H b bk) (z2:bk.length=n) (z3:H r=some (.lst (rs.map vN))) (z4:rs.Perm (P0 n)) (z5:∀ (a:Addr) (H':Hp),aM H H'->ou n H' a (mvB n rs bk)->Q (.ref a) H'):tD  vs H Q
def wM:Sp:=fun vs H Q _=>tD  vs H Q
theorem kh (F:Fun K "_law_moved_book" "_law_moved_book" fB f fd) (B:Bt mg)
  (D_law_renamed:Df P w K mg base "_law_renamed" 4 ["_law_term_here","_law_row"] (uZ K 4)):fj P w K mg base CX0 5 f fd ["_law_book_here","_law_row"] wM:=by
 refine F.ok cQ (fun vs H Q E h=>?_) (fun cdv A outer s H vs Q E hr h=>?_)
 ·obtain⟨b,r,n,bk,rs,rfl,_⟩:=h
  rfl
 ·obtain⟨b,r,n,bk,rs,rfl,hB,lb,hrw,pm,q⟩:=h
  refine⟨_,(aA (aU (i:=2) cQ.nd rfl (Qm rfl) (bK aq))
 (aA (gK Rt rfl (cL rfl B.range_ (aa (aL (r:=yg K) cC rfl B.len_ ie (aa (pv 1) aq)) aq)) (aG (i:=3) cQ.nd rfl (Qm rfl)) (aA (aU (i:=4) cQ.nd rfl (Qm rfl) (bh (r:=gq K) aQ (pv 0) (j8 QH PySem.F.slot_list_index PySem.F.type_list_index wX (pv 1) (aa (pv 3) aq)) (fun _ _=>rfl)))
 (aC (gf (j8 QH Rq Rp cP (pv 2) (aa (bA (L:=["_law_pledge_here"]) (F:=["_law_row"]) (cap:=[1]) rfl (bj rfl rfl (by kernel_rfl)) (dX (pv 4)) (fun _ _ _ _ _=>(aG (i:=0) (aP (by decide+kernel)) rfl (Qm rfl))) (fun _ _ _ _ _=>bC) (fun _ _ _ _ _=>(bG (r:=fC K) bB rfl B.tuple_ bQ (aa (bA (L:=["_law_step","_law_term_here"]) (F:=["_law_row"]) (cap:=[1]) rfl (bj rfl rfl (by kernel_rfl)) (JL K rfl (pv 0)) (fun _ _ _ _ _=>(dU (K:=K) 2 rfl rfl (aZ (aG (i:=0) (aP (by decide+kernel)) rfl (Qm rfl)) (aZ (aG (i:=1) (aP (by decide+kernel)) rfl (Qm rfl)) d8)))) (fun _ _ _ _ _=>bC) (fun _ _ _ _ _=>(bU (aa (pv 0) (aa (aY D_law_renamed hr (aa (pv 1) (aa (pv 2) aq))) aq))))) aq)))) aq))))))
 (aC (aK (pv 2))))),?_⟩
  obtain⟨nd,hl,hv,hm⟩:=cR pm
  obtain⟨us0,hb0,rb0,l12⟩:=id hB
  have lu:=rb0.length
  have el:((rs.map vN).length:Nat)=n:=by rw[Py,hl]
  refine⟨small (by show 0<=1000; decide),fun fo hfo=>?_⟩
  generalize eH1:upd H fo _=H1
  obtain⟨g1,e1⟩:=aJ eH1 hfo
  refine⟨_,rfl,r,_,rfl,.inl (SqL.of (g1 _ _ hrw)),_,rfl,by lia,by lia,iI (lo:=0) (n:=(((rs.map vN).length:Nat):Int).toNat) (fun i σ H2=>(∃ u v,σ=[some (.ref b),some (.ref r),some (.ref fo),u,v])/\aM H H2/\∃ (us:List V),H2 fo=some (.lst us)/\cI n H2 us ((P0 i).map fun j=>(bk.getD (ixP rs j) []).map (mvP rs))/\(∀ u∈us,u≠.ref fo))
   ⟨⟨_,_,rfl⟩,g1,[],e1,.nil,by simp⟩ ?_ ?_⟩
  ·rintro i σ H2 hi ⟨⟨u,v,rfl⟩,sm,us,ef,rb,hur⟩
   have hin:i < n:=by lia
   have hx:=lQ pm hin
   have lus:=rb.length
   rw[Py,Qs] at lus
   rw[Tu]
   have hy:us0[ixP rs i]? = some us0[ixP rs i]:=PJ (by lia)
   obtain⟨c,as,ps,ec,hps,hc,l100,rps⟩:=rb0.get hy
   have gb:bk.getD (ixP rs i) []=ps:=by rw[PL,hps]; rfl
   have at2:atI us0 ((ixP rs i:Nat):Int)=some (.ref c):=by rw[← ec]; exact iG hy
   refine gN ?_
   dsimp only
   refine⟨_,rfl,_,rfl,.inl ⟨rfl,_,SqL.of (sm _ _ hrw)⟩,_,rfl,?_⟩
   dsimp only [LK]
   refine wC (sm _ _ hrw) (hm i hin) ?_
   refine⟨b,_,_,_,rfl,rfl,SqL.of (sm _ _ hb0),at2,?_⟩
   refine gN ?_
   refine⟨_,rfl,.inl ⟨rfl,_,SqL.of ef⟩,_,rfl,c,rfl,⟨_,SqL.of (sm _ _ hc)⟩,fun D hD=>cJ (K:=K) (a:=c) (xs:=as.map V.ref) (fun j zs σ' H3=>(∃ u,σ'=[u,some (.ref r)])/\aM H2 H3/\H3 D=some (.lst zs)/\∃ qs:List Addr,zs=qs.map V.ref/\dI n H3 qs ((ps.take j).map (mvP rs)))
    ⟨⟨_,rfl⟩,au hD _,aj,[],rfl,by rw[Ry]; exact .nil⟩ (fun j zs σ' H3 _ h=>⟨SqL.of ((sm.trans h.2.1) _ _ hc),h.2.2.1⟩) ?_ ?_⟩
   ·rintro j zs x σ' H3 hx3 ⟨⟨u,rfl⟩,s3,eD,qs,rfl,rq⟩
    rw[Qn] at hx3
    obtain⟨pa,hpa,rfl⟩:=Option.map_eq_some_iff.mp hx3
    obtain⟨p,hp,okp,vs0,ev0,rv0⟩:=rps.get hpa
    have hj100:=(List.getElem?_eq_some_iff.mp hpa).1
    have hpm:p∈ps:=Qy hp
    have hpsm:ps∈bk:=Qy hps
    have s23:=sm.trans s3
    have lv0:=rv0.length
    have p9:=okp.2.1
    have lq:=rq.length
    rw[Py,Ql] at lq
    refine gT ?_
    refine⟨_,rfl,pa,rfl,⟨_,SqT.of (s23 _ _ ev0)⟩,fun D2 hD2=>fG (K:=K) (a:=pa) (xs:=vs0) (fun i zs σ' H4=>(∃ u v,σ'=[u,v,some (.ref r)])/\aM H3 H4/\H4 D2=some (.lst zs)/\dD n H4 zs ((p.take i).map fun x=>(x.1,ren (dh rs) x.2)))
     ⟨⟨_,_,rfl⟩,au hD2 _,aj,.nil⟩ (fun i zs σ' H4 _ h=>⟨SqT.of ((s23.trans h.2.1) _ _ ev0),h.2.2.1⟩) ?_ ?_⟩
    ·rintro i zs x σ' H4 hx4 ⟨⟨u,v,rfl⟩,s4,eD2,rz⟩
     obtain⟨ra,kk,tv,t,rfl,era,rt,hpi⟩:=rv0.get hx4
     have s24:=s23.trans s4
     have lz:=rz.length
     rw[Py,Ql] at lz
     refine⟨ra,_,rfl,SqT.of (s24 _ _ era),rfl,_,_,rfl,_,_,rfl,rfl,?_⟩
     refine tT ?_
     refine⟨_,rfl,_,rfl,_,rfl,tv,r,n,n,t,rs,rfl,rt.mono s24,(okp.2.2.2 _ (Qy hpi)).2.2,SqL.of (s24 _ _ hrw),by lia,nd,hv,fun v' H5 s5 r5=>?_⟩
     refine⟨small (by show 2<=1000; decide),fun pb hb'=>?_⟩
     generalize eHb:upd H5 pb _=Hb
     obtain⟨gb',eb⟩:=aJ eHb hb'
     have s4b:=s5.trans gb'
     have tk:=bR (zs':=zs++[.ref pb]) (s4b _ _ eD2)
     refine⟨s4b _ _ eD2,aD (by lia),⟨_,_,rfl⟩,aF (s4.trans s4b) hD2 _,aj,?_⟩
     rw[QF,hpi,PQ]
     exact dD.snoc (tk _ _ eb) ((r5.mono gb').bu tk) ((rz.bu fun a xs q=>s4b a _ q).bu tk)
    ·rintro zs σ' H4 ⟨_,s4,eD2,rz⟩
     have lt:p.take vs0.length=p:=by rw[lv0,Qk]
     rw[lt] at rz
     refine⟨D2,_,rfl,.inl ⟨SqL.of eD2,fun pb hb'=>?_⟩⟩
     generalize eHb:upd H4 pb _=Hb
     obtain⟨gb',eb⟩:=aJ eHb hb'
     have s4b:=s4.trans gb'
     have tk:=bR (zs':=qs.map V.ref++[.ref pb]) (s4b _ _ eD)
     refine⟨s4b _ _ eD,aD (by rw[Py]; lia),⟨_,rfl⟩,aF (s3.trans s4b) hD _,aj,qs++[pb],by rw[PQ]; rfl,?_⟩
     rw[QF,hp,PQ]
     refine dI.snoc ⟨Gm okp,zs,tk _ _ eb,(rz.bu fun a xs q=>gb' a _ q).bu tk⟩ ((rq.bu fun a xs q=>s4b a _ q).bu tk)
   ·rintro zs σ' H3 ⟨_,s3,eD,qs,rfl,rq⟩
    have lps:=rps.length
    have lt:ps.take (as.map V.ref).length=ps:=by rw[Py,lps,Qk]
    rw[lt] at rq
    have lq:=rq.length
    rw[Py] at lq
    have s23:=sm.trans s3
    have ef3:=s3 _ _ ef
    have hDr:D≠fo:=fun z=>by
     rw[z] at hD
     rw[ef] at hD
     cases hD
    refine⟨fo,_,_,rfl,rfl,ef3,aD (by lia),⟨_,_,rfl⟩,aF s23 hfo _,us++[.ref D],aj,?_,fun u hu=>?_⟩
    ·have b6:=cI.snoc eD (by lia) rq (rb.mono s3)
     rw[SM,PQ]
     show cI n _ _ (_++[(bk.getD (ixP rs i) []).map (mvP rs)])
     rw[gb]
     refine b6.keep ef3 fun u hu=>?_
     rcases List.mem_append.mp hu with h | h
     ·exact hur u h
     ·rw[List.mem_singleton.mp h]
      exact fun z=>hDr (by cases z; rfl)
    ·rcases List.mem_append.mp hu with h | h
     ·exact hur u h
     ·rw[List.mem_singleton.mp h]
      exact fun z=>hDr (by cases z; rfl)
  ·rintro σ H2 ⟨⟨u,v,rfl⟩,sm,us,ef,rb,hur⟩
   have e:((((rs.map vN).length:Nat):Int)).toNat=n:=by lia
   rw[e] at rb
   exact⟨_,rfl,q fo H2 sm ⟨us,ef,rb,by rw[bO]; lia⟩⟩
def NoH:Hp:=fun _=>none
theorem LF.at {H0 H:Hp}:∀ {us:List V} {cs:List (List Nat)} {i:Nat} {u:V},LF H0 H us cs->us[i]? = some u->∃ (a:Addr) (c:List Nat),u = .ref a/\cs[i]? = some c/\H a=some (.lst (c.map vN))
 | _,_,_,_,.nil,h=>by simp at h
 | _,_,0,_,.cons h1 _ _,e=>by
  cases (show some _=some _ from e)
  exact⟨_,_,rfl,rfl,h1⟩
 | _,_,i+1,_,.cons _ _ r,e=>by
  obtain⟨a,c,k1,k2,k3⟩:=LF.at (i:=i) r (by simpa using e)
  exact⟨a,c,k1,by simpa using k2,k3⟩
theorem yO {n:Nat} {bk:List (List Pl)} (h:PlN n bk) (k:Nat):PlN n (lO bk k):=fun ps hps=>by
 obtain⟨i,hi,e⟩:=RX hps
 have hi':i < bk.length:=by rw[bH] at hi; exact hi
 have t:=nP (k:=k) hi'
 rw[PJ hi,e] at t
 have t:=QJ t
 by_cases z:i=k
 ·rw[if_pos z] at t
  rw[t]
  intro p hp
  cases hp
 ·rw[if_neg z] at t
  rw[t]
  exact h _ (Rg hi')
abbrev JP:Stmt:=top 43
theorem ig:aW ["_law_script","_law_n","_law_most","_law_book_here","_law_floor","_law_row","_law_other","_law_base","_law_found","_law_some","_law_one"] ["_law_script"] (aH JP):=⟨rfl,rfl,rfl,by decide+kernel,rfl,by decide+kernel,by decide+kernel⟩
inductive Gy (K:Qu) (vs:List V) (H:Hp) (Q:VK):Prop where
 | mk (a:Addr) (ns:List Int) (z0:vs=[.ref a]) (z1:SqL K H a (ns.map V.int)) (z2:ns.length<=63) (z3:∀ H',Q (.bl true) H'):Gy K vs H Q
def FQ (K:Qu):Sp:=fun vs H Q _=>Gy K vs H Q
theorem Lz (F:Fun K "law" "law" JP f fd) (B:Bt mg)
  (D_law_scene:Df P w K mg base "_law_scene" 8 ["_law_script"] (Al K)) (D_law_order:Df P w K mg base "_law_order" 3 ["_law_cell_here","_law_n"] Dr) (D_law_cell:Df P w K mg base "_law_cell" 1 ["_law_script","_law_k"] (xT K))
  (D_law_moved_book:Df P w K mg base "_law_moved_book" 5 ["_law_book_here","_law_row"] wM) (D_law_moved:Df P w K mg base "_law_moved" 1 ["_law_giving_here","_law_row"] CK) (D_rise:Df P w K mg base "rise" 12 ["book","floor"] (kI Kp)) (D_fall:Df P w K mg base "fall" 12 ["book","floor"] (kI rfF))
  (D_law_same:Df P w K mg base "_law_same" 3 ["_law_found","_law_due"] (pD 3)) (D_greatest:Df P w K mg base "greatest" 13 ["book","floor"] (ue rfF)) (D_least:Df P w K mg base "least" 13 ["book","floor"] (ue Kp))
  (D_knots:Df P w K mg base "knots" 14 ["book","floor"] zQ) (D_lost:Df P w K mg base "lost" 15 ["book","floor","one"] Gv):fj P w K mg base CX0 16 f fd ["_law_script"] (FQ K):=by
 refine F.ok ig (fun vs H Q E h=>?_) (fun cdv A outer s H vs Q E hr h=>?_)
 ·obtain⟨a,ns,rfl,_⟩:=h
  rfl
 ·obtain⟨a,ns0,rfl,hS,lN,q⟩:=h
  refine' ⟨_,?hp,?hz⟩
  case hp =>
   refine' aA ?s1 ?r1
   case s1 =>
    exact (aU (i:=0) ig.nd rfl (Qm rfl) (xU (r:=Oi K) Jq (pv 0) Cd (Ck aB)))
   case r1 =>
    refine' aA ?s2 ?r2
    case s2 =>
     exact (Hs (aY D_law_scene hr (aa (pv 0) aq)) (dU (K:=K) 4 rfl rfl (aZ (aG (i:=1) ig.nd rfl (Qm rfl)) (aZ (aG (i:=2) ig.nd rfl (Qm rfl)) (aZ (aG (i:=3) ig.nd rfl (Qm rfl)) (aZ (aG (i:=4) ig.nd rfl (Qm rfl)) d8))))))
    case r2 =>
     refine' aA ?s3 ?r3
     case s3 =>
      exact (aU (i:=5) ig.nd rfl (Wk rfl) (aY D_law_order hr (aa (aY D_law_cell hr (aa (pv 0) (aa aB aq))) (aa (pv 1) aq))))
     case r3 =>
      refine' aA ?s4 ?r4
      case s4 =>
       exact (aU (i:=6) ig.nd rfl (Qm rfl) (aY D_law_moved_book hr (aa (pv 3) (aa (pv 5) aq))))
      case r4 =>
       refine' aA ?s5 ?r5
       case s5 =>
        exact (aU (i:=7) ig.nd rfl (Qm rfl) (aY D_law_moved hr (aa (pv 4) (aa (pv 5) aq))))
       case r5 =>
        refine' aA ?s6 ?r6
        case s6 =>
         exact (bZ (o5 (iH (aY D_law_same hr (aa (aY D_rise hr (aa (pv 6) (aa (pv 7) aq))) (aa (bA (L:=["_law_one"]) (F:=["_law_row"]) (cap:=[5]) rfl (bj rfl rfl (by kernel_rfl)) (dX (aY D_rise hr (aa (pv 3) (aa (pv 4) aq)))) (fun _ _ _ _ _=>(aG (i:=0) (aP (by decide+kernel)) rfl (Qm rfl))) (fun _ _ _ _ _=>bC) (fun _ _ _ _ _=>(aY D_law_moved hr (aa (pv 0) (aa (pv 1) aq))))) aq))))) (aC (aK jA)) aX)
        case r6 =>
         refine' aA ?s7 ?r7
         case s7 =>
          exact (bZ (o5 (iH (aY D_law_same hr (aa (aY D_fall hr (aa (pv 6) (aa (pv 7) aq))) (aa (bA (L:=["_law_one"]) (F:=["_law_row"]) (cap:=[5]) rfl (bj rfl rfl (by kernel_rfl)) (dX (aY D_fall hr (aa (pv 3) (aa (pv 4) aq)))) (fun _ _ _ _ _=>(aG (i:=0) (aP (by decide+kernel)) rfl (Qm rfl))) (fun _ _ _ _ _=>bC) (fun _ _ _ _ _=>(aY D_law_moved hr (aa (pv 0) (aa (pv 1) aq))))) aq))))) (aC (aK jA)) aX)
         case r7 =>
          refine' aA ?s8 ?r8
          case s8 =>
           exact (aU (i:=8) ig.nd rfl (Qm rfl) (bK (aa (aY D_least hr (aa (pv 6) (aa (pv 7) aq))) (aa (aY D_greatest hr (aa (pv 6) (aa (pv 7) aq))) aq))))
          case r8 =>
           refine' aA ?s9 ?r9
           case s9 =>
            exact (bZ (o5 (iH (aY D_law_same hr (aa (pv 8) (aa (bK (aa (aY D_law_moved hr (aa (aY D_least hr (aa (pv 3) (aa (pv 4) aq))) (aa (pv 5) aq))) (aa (aY D_law_moved hr (aa (aY D_greatest hr (aa (pv 3) (aa (pv 4) aq))) (aa (pv 5) aq))) aq))) aq))))) (aC (aK jA)) aX)
           case r9 =>
            refine' aA ?s10 ?r10
            case s10 =>
             exact (aU (i:=9) ig.nd rfl (Qm rfl) (aL (r:=vp K) (mR hr) rfl B.sorted_ (by decide+kernel) (aa (bA (L:=["_law_crowd_here"]) (F:=["_law_row"]) (cap:=[5]) rfl (bj rfl rfl (by kernel_rfl)) (dX (aY D_knots hr (aa (pv 3) (aa (pv 4) aq)))) (fun _ _ _ _ _=>(aG (i:=0) (aP (by decide+kernel)) rfl (Qm rfl))) (fun _ _ _ _ _=>bC) (fun _ _ _ _ _=>(aL (r:=wI K) jZ rfl B.sorted_ (by decide+kernel) (aa (bA (L:=["_law_one"]) (F:=["_law_row"]) (cap:=[1]) rfl (bj rfl rfl (by kernel_rfl)) (qj K rfl (pv 0)) (fun _ _ _ _ _=>(aG (i:=0) (aP (by decide+kernel)) rfl (Qm rfl))) (fun _ _ _ _ _=>bC) (fun _ _ _ _ _=>(bh (r:=gq K) aQ (pv 1) (pv 0) (fun _ _=>rfl)))) aq)))) aq)))
            case r10 =>
             refine' aA ?s11 ?r11
             case s11 =>
              exact (bZ (o5 (iH (aY D_law_same hr (aa (aY D_knots hr (aa (pv 6) (aa (pv 7) aq))) (aa (pv 9) aq))))) (aC (aK jA)) aX)
             case r11 =>
              refine' aA ?s12 ?r12
              case s12 =>
               refine' gK Rt rfl ?it ?tg ?bd ?hs
               case hs=>intro _; rfl
               case it=>exact (cL rfl B.range_ (aa (pv 1) aq))
               case tg=>exact (aG (i:=10) ig.nd rfl (Qm rfl))
               case bd =>
                refine' aC ?s13
                case s13 =>
                 exact (bZ (o5 (iH (aY D_law_same hr (aa (aY D_lost hr (aa (pv 6) (aa (pv 7) (aa (bh (r:=gq K) aQ (pv 5) (pv 10) (fun _ _=>rfl)) aq)))) (aa (aL (r:=wI K) jZ rfl B.sorted_ (by decide+kernel) (aa (bA (L:=["_law_at"]) (F:=["_law_row"]) (cap:=[5]) rfl (bj rfl rfl (by kernel_rfl)) (dX (aY D_lost hr (aa (pv 3) (aa (pv 4) (aa (pv 10) aq))))) (fun _ _ _ _ _=>(aG (i:=0) (aP (by decide+kernel)) rfl (Qm rfl))) (fun _ _ _ _ _=>bC) (fun _ _ _ _ _=>(bh (r:=gq K) aQ (pv 1) (pv 0) (fun _ _=>rfl)))) aq)) aq))))) (aC (aK jA)) aX)
              case r12 =>
               refine' aC ?s14
               case s14 =>
                exact (aK jA)
  case hz =>
  refine bw (fun σ H1=>∃ (p1:Addr) (ss:List Int),σ=[some (.ref p1),none,none,none,none,none,none,none,none,none,none]/\aM H H1/\H1 p1=some (.lst (ss.map V.int))/\ss.length<=63) ?q0 ?t0
  case t0 =>
   intro N Rc
   refine⟨_,rfl,_,rfl,a,_,rfl,hS,fun p1 h1=>?_⟩
   obtain⟨ss,es,ls⟩:=Eh ns0 none (some 63)
   rw[es]
   exact Rc _ _ ⟨p1,ss,rfl,au h1 _,aj,by lia⟩
  case q0 =>
  rintro σ H1 ⟨p1,ss,rfl,g1,e1,ls⟩
  refine bw (fun σ H4=>∃ (n mo:Nat) (b f:Addr) (bk:List (List Pl)) (fl:List Int),σ=[some (.ref p1),some (.int (n:Int)),some (.int (mo:Int)),some (.ref b),some (.ref f),none,none,none,none,none,none]/\aM H1 H4/\n<=6/\K5 n H4 b f bk fl) ?q1 ?t1
  case t1 =>
   intro N Rc
   exact⟨_,rfl,p1,ss,rfl,SqL.of e1,fun r n mo b f bk fl H4 s4 er m1 m9 hpow hmo scn om=>⟨r,_,rfl,SqT.of er,rfl,_,_,rfl,_,_,rfl,_,_,rfl,_,_,rfl,rfl,Rc _ _ ⟨n,mo,b,f,bk,fl,rfl,s4,hpow.2,scn⟩⟩⟩
  case q1 =>
  rintro σ H4 ⟨n,mo,b,f,bk,fl,rfl,s4,n6,⟨n1,n12,hB,lb,hf,lf,hfl⟩⟩
  have of:okG n fl:=⟨lf,hfl⟩
  have okb:=hB.okB
  have hpn:=hB.names
  have low:=Mr lb okb of
  generalize cl n bk fl=lo at low
  obtain⟨mf,_,stf⟩:=kE lb okb of
  have hh:=bJ lb okb of stf
  generalize itF (Fd fl bk) (rfF fl bk) mf=hi at hh
  refine bw (fun σ H5=>∃ (rw:Addr) (rs:List Nat),σ=[some (.ref p1),some (.int (n:Int)),some (.int (mo:Int)),some (.ref b),some (.ref f),some (.ref rw),none,none,none,none,none]/\aM H4 H5/\rs.Perm (P0 n)/\H5 rw=some (.lst (rs.map vN))) ?q2 ?t2
  case t2 =>
   intro N Rc
   exact⟨_,rfl,p1,ss,17,rfl,SqL.of (s4 _ _ e1),_,rfl,_,n,rfl,n1,n12,fun r rs H5 s5 _ pm er=>Rc _ _ ⟨r,rs,rfl,s5,pm,er⟩⟩
  case q2 =>
  rintro σ H5 ⟨rw,rs,rfl,s45,pm,erow0⟩
  obtain⟨nd,lrs,hv,hm⟩:=cR pm
  have of':=jd (rs:=rs) pm of
  have okb':okB (mvB n rs bk):=o4 okb
  have low':=zL pm lb okb hpn of low
  have hh':=zG pm lb okb hpn of hh
  refine bw (fun σ Ha=>∃ (ob:Addr),σ=[some (.ref p1),some (.int (n:Int)),some (.int (mo:Int)),some (.ref b),some (.ref f),some (.ref rw),some (.ref ob),none,none,none,none]/\aM H5 Ha/\ou n Ha ob (mvB n rs bk)) ?q3 ?t3
  case t3 =>
   intro N Rc
   exact⟨_,rfl,_,rfl,b,rw,n,bk,rs,rfl,hB.mono s45,lb,erow0,pm,fun a Ha sa hBo=>Rc _ _ ⟨a,rfl,sa,hBo⟩⟩
  case q3 =>
  rintro σ Ha ⟨ob,rfl,sa,hBo0⟩
  refine bw (fun σ H6=>∃ (ba:Addr),σ=[some (.ref p1),some (.int (n:Int)),some (.int (mo:Int)),some (.ref b),some (.ref f),some (.ref rw),some (.ref ob),some (.ref ba),none,none,none]/\aM Ha H6/\H6 ba=some (.tup ((cj n rs fl).map V.int))) ?q4 ?t4
  case t4 =>
   intro N Rc
   exact⟨_,rfl,_,rfl,f,rw,n,fl,rs,rfl,n12,(s45.trans sa) _ _ hf,lf,sa _ _ erow0,pm,fun a H6 s6 ea=>Rc _ _ ⟨a,rfl,s6,ea⟩⟩
  case q4 =>
  rintro σ H6 ⟨ba,rfl,sa6,eba⟩
  have hBo:=hBo0.mono sa6
  have s56:=sa.trans sa6
  have s46:=s45.trans s56
  have s66:=aM.refl H6
  refine bw (fun σ Hz=>σ=[some (.ref p1),some (.int (n:Int)),some (.int (mo:Int)),some (.ref b),some (.ref f),some (.ref rw),some (.ref ob),some (.ref ba),none,none,none]/\aM H6 Hz) ?q5 ?t5
  case t5 =>
   intro N Rc
   refine⟨_,rfl,_,rfl,ob,ba,n,mvB n rs bk,cj n rs fl,rfl,hBo.mono s66,bO,s66 _ _ eba,of',fun m r1 us1 H1 m9 st1 s1 fr1 er1 gr1=>?_⟩
   have s41:=s46.trans s1
   refine⟨_,rfl,_,rfl,b,f,n,bk,fl,rfl,hB.mono s41,lb,s41 _ _ hf,of,fun m2 r2 us2 H2 _ st2 s2 fr2 er2 gr2=>?_⟩
   have gr2:fD H2 us2 (cT (Fd fl bk) (fl) m2):=gr2
   have em:m2=m:=by
    have:=my pm lb okb hpn of of st2
    exact o7 this st1
   subst em
   have erow2:=(s56.trans (s1.trans s2)) _ _ erow0
   refine⟨r2,rfl,⟨_,SqL.of er2⟩,fun D hD=>cJ (K:=K) (a:=r2) (xs:=us2) (fun i zs σ' Hy=>(∃ u,σ'=[u,some (.ref rw)])/\aM H2 Hy/\Hy D=some (.lst zs)/\fD Hy zs (((cT (Fd fl bk) (fl) m2).take i).map (cj n rs)))
    ⟨⟨_,rfl⟩,au hD _,aj,by rw[Ry]; exact .nil⟩ (fun i zs σ' Hy _ h=>⟨SqL.of (h.2.1 _ _ er2),h.2.2.1⟩) ?_ ?_⟩
   ·rintro i zs x σ' Hy hx ⟨⟨u,rfl⟩,sy,eD,gz⟩
    have il:=(List.getElem?_eq_some_iff.mp hx).1
    have lg:=gr2.length
    obtain⟨g,hg⟩:∃ g,(cT (Fd fl bk) (fl) m2)[i]? = some g:=⟨_,PJ (by lia)⟩
    obtain⟨ga,hga,ega⟩:=gr2.get hg
    rw[hga] at hx
    cases hx
    have ln:g.length=n:=by
     obtain⟨k,_,rfl⟩:=List.mem_map.mp (Qy hg)
     exact (dG lb okb of of k).1
    have lz:=gz.length
    rw[Py,Ql] at lz
    have lrw:(cT (Fd fl bk) (fl) m2).length=m2+1:=dj _ _ _
    refine gT ?_
    refine⟨_,rfl,_,rfl,ga,rw,n,g,rs,rfl,n12,sy _ _ ega,ln,sy _ _ erow2,pm,fun a Hw sw ea=>?_⟩
    have tk:=bR (zs':=zs++[.ref a]) (sw _ _ eD)
    refine⟨sw _ _ eD,aD (by lia),⟨_,rfl⟩,aF (sy.trans sw) hD _,aj,?_⟩
    rw[QF,hg,PQ]
    exact fD.snoc (tk _ _ ea) (by rw[fc]; lia) ((gz.mono sw).bu tk)
   ·rintro zs σ' Hy ⟨_,sy,eD,gz⟩
    have lg:=gr2.length
    have lrw:(cT (Fd fl bk) (fl) m2).length=m2+1:=dj _ _ _
    rw[lg,Qk] at gz
    have lz:=gz.length
    rw[Py] at lz
    have e:cT (Fd (cj n rs fl) (mvB n rs bk)) (cj n rs fl) m2=(cT (Fd fl bk) (fl) m2).map (cj n rs):=by
     exact Bu pm lb okb hpn of fl m2
    rw[e] at gr1
    have lg1:=gr1.length
    rw[Py] at lg1
    refine⟨.ref r1,.ref D,.lst (((cT (Fd fl bk) (fl) m2).map (cj n rs)).map gD),rfl,.lst ((s2.trans sy) _ _ er1) (by lia) (gr1.mono (s2.trans sy)).Ml,.lst eD (by lia) gz.Ml,?_,fun Hk sk=>⟨_,rfl,gG (Rc _ _ ⟨rfl,s1.trans (s2.trans (sy.trans sk))⟩)⟩⟩
    rw[Dm.dep]
    have:=vM ((cT (Fd fl bk) (fl) m2).map (cj n rs))
    lia
  case q5 =>
  rintro σ H7 ⟨rfl,s7⟩
  have s67:=s7
  have s47:=s46.trans s7
  have s57:=s56.trans s7
  refine bw (fun σ Hz=>σ=[some (.ref p1),some (.int (n:Int)),some (.int (mo:Int)),some (.ref b),some (.ref f),some (.ref rw),some (.ref ob),some (.ref ba),none,none,none]/\aM H7 Hz) ?q6 ?t6
  case t6 =>
   intro N Rc
   refine⟨_,rfl,_,rfl,ob,ba,n,mvB n rs bk,cj n rs fl,rfl,hBo.mono s67,bO,s67 _ _ eba,of',fun m r1 us1 H1 m9 st1 s1 fr1 er1 gr1=>?_⟩
   have s41:=s47.trans s1
   refine⟨_,rfl,_,rfl,b,f,n,bk,fl,rfl,hB.mono s41,lb,s41 _ _ hf,of,fun m2 r2 us2 H2 _ st2 s2 fr2 er2 gr2=>?_⟩
   have gr2:fD H2 us2 (cT (Fd fl bk) (rfF fl bk) m2):=gr2
   have em:m2=m:=by
    have:=my pm lb okb hpn of (dF lb okb of) st2
    rw[← FT pm lb okb of] at this
    exact o7 this st1
   subst em
   have erow2:=(s57.trans (s1.trans s2)) _ _ erow0
   refine⟨r2,rfl,⟨_,SqL.of er2⟩,fun D hD=>cJ (K:=K) (a:=r2) (xs:=us2) (fun i zs σ' Hy=>(∃ u,σ'=[u,some (.ref rw)])/\aM H2 Hy/\Hy D=some (.lst zs)/\fD Hy zs (((cT (Fd fl bk) (rfF fl bk) m2).take i).map (cj n rs)))
    ⟨⟨_,rfl⟩,au hD _,aj,by rw[Ry]; exact .nil⟩ (fun i zs σ' Hy _ h=>⟨SqL.of (h.2.1 _ _ er2),h.2.2.1⟩) ?_ ?_⟩
   ·rintro i zs x σ' Hy hx ⟨⟨u,rfl⟩,sy,eD,gz⟩
    have il:=(List.getElem?_eq_some_iff.mp hx).1
    have lg:=gr2.length
    obtain⟨g,hg⟩:∃ g,(cT (Fd fl bk) (rfF fl bk) m2)[i]? = some g:=⟨_,PJ (by lia)⟩
    obtain⟨ga,hga,ega⟩:=gr2.get hg
    rw[hga] at hx
    cases hx
    have ln:g.length=n:=by
     obtain⟨k,_,rfl⟩:=List.mem_map.mp (Qy hg)
     exact (dG lb okb of (dF lb okb of) k).1
    have lz:=gz.length
    rw[Py,Ql] at lz
    have lrw:(cT (Fd fl bk) (rfF fl bk) m2).length=m2+1:=dj _ _ _
    refine gT ?_
    refine⟨_,rfl,_,rfl,ga,rw,n,g,rs,rfl,n12,sy _ _ ega,ln,sy _ _ erow2,pm,fun a Hw sw ea=>?_⟩
    have tk:=bR (zs':=zs++[.ref a]) (sw _ _ eD)
    refine⟨sw _ _ eD,aD (by lia),⟨_,rfl⟩,aF (sy.trans sw) hD _,aj,?_⟩
    rw[QF,hg,PQ]
    exact fD.snoc (tk _ _ ea) (by rw[fc]; lia) ((gz.mono sw).bu tk)
   ·rintro zs σ' Hy ⟨_,sy,eD,gz⟩
    have lg:=gr2.length
    have lrw:(cT (Fd fl bk) (rfF fl bk) m2).length=m2+1:=dj _ _ _
    rw[lg,Qk] at gz
    have lz:=gz.length
    rw[Py] at lz
    have e:cT (Fd (cj n rs fl) (mvB n rs bk)) (rfF (cj n rs fl) (mvB n rs bk)) m2=(cT (Fd fl bk) (rfF fl bk) m2).map (cj n rs):=by
     rw[FT pm lb okb of]
     exact Bu pm lb okb hpn of (rfF fl bk) m2
    rw[e] at gr1
    have lg1:=gr1.length
    rw[Py] at lg1
    refine⟨.ref r1,.ref D,.lst (((cT (Fd fl bk) (rfF fl bk) m2).map (cj n rs)).map gD),rfl,.lst ((s2.trans sy) _ _ er1) (by lia) (gr1.mono (s2.trans sy)).Ml,.lst eD (by lia) gz.Ml,?_,fun Hk sk=>⟨_,rfl,gG (Rc _ _ ⟨rfl,s1.trans (s2.trans (sy.trans sk))⟩)⟩⟩
    rw[Dm.dep]
    have:=vM ((cT (Fd fl bk) (rfF fl bk) m2).map (cj n rs))
    lia
  case q6 =>
  rintro σ H8 ⟨rfl,s8⟩
  have s68:=s67.trans s8
  have s48:=s47.trans s8
  have s58:=s57.trans s8
  have erow:=s58 _ _ erow0
  refine bw (fun σ H9=>∃ (fo a1 a2:Addr),σ=[some (.ref p1),some (.int (n:Int)),some (.int (mo:Int)),some (.ref b),some (.ref f),some (.ref rw),some (.ref ob),some (.ref ba),some (.ref fo),none,none]/\aM H8 H9/\H9 fo=some (.lst [.ref a1,.ref a2])/\H9 a1=some (.tup ((cj n rs lo).map V.int))/\H9 a2=some (.tup ((cj n rs hi).map V.int))) ?q7 ?t7
  case t7 =>
   intro N Rc
   refine⟨_,rfl,_,rfl,ob,ba,n,mvB n rs bk,cj n rs fl,rfl,hBo.mono s68,bO,s68 _ _ eba,of',fun m1 a1 Hc _ st1 sc ea1=>?_⟩
   have s6c:=s68.trans sc
   refine⟨_,rfl,_,rfl,ob,ba,n,mvB n rs bk,cj n rs fl,rfl,hBo.mono s6c,bO,s6c _ _ eba,of',fun m2 a2 Hd _ st2 sd ea2=>?_⟩
   refine⟨small (by show 2<=1000; decide),fun p hp=>?_⟩
   have gn:=au hp (.lst [.ref a1,.ref a2])
   rw[(du bO okb' of' st1).uniq low'] at ea1
   rw[(bJ bO okb' of' st2).uniq hh'] at ea2
   exact Rc _ _ ⟨p,a1,a2,rfl,sc.trans (sd.trans gn),aj,gn _ _ (sd _ _ ea1),gn _ _ ea2⟩
  case q7 =>
  rintro σ H9 ⟨fo,a1,a2,rfl,s9,efo,ea1,ea2⟩
  have s49:=s48.trans s9
  have s69:=s68.trans s9
  refine bw (fun σ Hb=>σ=[some (.ref p1),some (.int (n:Int)),some (.int (mo:Int)),some (.ref b),some (.ref f),some (.ref rw),some (.ref ob),some (.ref ba),some (.ref fo),none,none]/\aM H9 Hb) ?q8 ?t8
  case t8 =>
   intro N Rc
   refine⟨_,rfl,_,rfl,_,rfl,b,f,n,bk,fl,rfl,hB.mono s49,lb,s49 _ _ hf,of,fun m1 b1 Hc _ st1 sc eb1=>?_⟩
   rw[(du lb okb of st1).uniq low] at eb1
   refine⟨_,rfl,b1,rw,n,lo,rs,rfl,n12,eb1,low.1.1,(s9.trans sc) _ _ erow,pm,fun a3 Hd sd ea3=>?_⟩
   have s4d:=s49.trans (sc.trans sd)
   refine⟨_,rfl,_,rfl,b,f,n,bk,fl,rfl,hB.mono s4d,lb,s4d _ _ hf,of,fun m2 b2 He _ st2 se eb2=>?_⟩
   rw[(bJ lb okb of st2).uniq hh] at eb2
   refine⟨_,rfl,b2,rw,n,hi,rs,rfl,n12,eb2,hh.1.1,(s9.trans (sc.trans (sd.trans se))) _ _ erow,pm,fun a4 Hf sf ea4=>?_⟩
   refine⟨small (by show 2<=1000; decide),fun p hp=>?_⟩
   have gn:=au hp (.lst [.ref a3,.ref a4])
   have sgn:=sc.trans (sd.trans (se.trans (sf.trans gn)))
   have l1:(cj n rs lo).length<=1000:=by rw[fc]; lia
   have l2:(cj n rs hi).length<=1000:=by rw[fc]; lia
   refine⟨.ref fo,.ref p,.lst [gD (cj n rs lo),gD (cj n rs hi)],rfl,.lst (sgn _ _ efo) (by show 2<=100000; decide) (.cons (jC (sgn _ _ ea1) l1) (.cons (jC (sgn _ _ ea2) l2) .nil)),.lst aj (by show 2<=100000; decide) (.cons (jC (gn _ _ (sf _ _ (se _ _ ea3))) l1) (.cons (jC (gn _ _ ea4) l2) .nil)),?_,fun Hk sk=>⟨_,rfl,gG (Rc _ _ ⟨rfl,sgn.trans sk⟩)⟩⟩
   have d1:(gD (cj n rs lo)).dep=1:=vU _
   have d2:(gD (cj n rs hi)).dep=1:=vU _
   rw[Dm.dep,n8,n8,n8,d1,d2]
   decide
  case q8 =>
  rintro σ Hb ⟨rfl,sb⟩
  have s4b:=s49.trans sb
  have s6b:=s69.trans sb
  have erowb:=(s9.trans sb) _ _ erow
  refine bw (fun σ Hc=>∃ (so:Addr) (uo:List V) (js:List (List Nat)),σ=[some (.ref p1),some (.int (n:Int)),some (.int (mo:Int)),some (.ref b),some (.ref f),some (.ref rw),some (.ref ob),some (.ref ba),some (.ref fo),some (.ref so),none]/\aM Hb Hc/\Hc so=some (.lst uo)/\LF NoH Hc uo js/\eO n (cj n rs fl) (mvB n rs bk) js) ?q9 ?t9
  case t9 =>
   intro N Rc
   refine⟨_,rfl,_,rfl,b,f,n,bk,fl,rfl,n6,hB.mono s4b,lb,s4b _ _ hf,of,fun kr uk ks Hk sk _ ek lk hne ka=>?_⟩
   have fewk:=ka.few low
   have p6:2 ^ n<=64:=by
    have:2 ^ n<=2 ^ 6:=Vy (by decide) n6
    lia
   have kok:∀ c∈ks,(∀ i∈c,i < n)/\c.Pairwise (· < ·)/\c.length<=6:=fun c hc=>by
    have:=(ka.1 lo low c).mp hc
    exact⟨this.2.1,this.1,by have:=fewk.2 c hc; lia⟩
   have knd:ks.Nodup:=ka.2.imp fun {a b} q e=>by
    rw[e,gJ] at q
    cases q
   have klt:ks.length < 64:=by
    have h1:=cW (m:=(cO n).erase []) knd fun c hc=>by
     obtain⟨x1,x2,x3⟩:=(ka.1 lo low c).mp hc
     refine (W0 fun z=>?_).mpr ?_
     ·rw[z] at x3
      exact x3.1 (xG lb okb of low)
     ·rw[← dq x1 x2]
      exact eE _ n
    have h0:[]∈cO n:=by
     have:=eE (fun _=>false) n
     rw[List.filter_eq_nil_iff.mpr (fun _ _=>by simp)] at this
     exact this
    rw[Wl h0,dY] at h1
    have:0 < 2 ^ n:=Nat.pos_of_ne_zero (by simp)
    lia
   have luk:=lk.length
   refine⟨kr,rfl,⟨_,SqL.of ek⟩,fun D hD=>cJ (K:=K) (a:=kr) (xs:=uk) (fun i zs σ' Hy=>(∃ u,σ'=[u,some (.ref rw)])/\aM Hk Hy/\Hy D=some (.lst zs)/\∃ ps:List (Addr × List Int),zs=ps.map (fun p=>V.ref p.1)/\ps.map (·.2)=(ks.take i).map (fun c=>iN (mvC rs c))/\∀ q∈ps,Hy q.1=some (.lst (q.2.map V.int))/\q.1≠D)
    ⟨⟨_,rfl⟩,au hD _,aj,[],rfl,by rw[Ry]; rfl,fun q hq=>by cases hq⟩ (fun i zs σ' Hy _ h=>⟨SqL.of (h.2.1 _ _ ek),h.2.2.1⟩) ?_ ?_⟩
   ·rintro i zs x σ' Hy hx ⟨⟨u,rfl⟩,sy,eD,ps,rfl,eps,hps⟩
    obtain⟨ca,c,rfl,hc,hca⟩:=lk.at hx
    obtain⟨c1,c2,c3⟩:=kok c (Qy hc)
    have il:=(List.getElem?_eq_some_iff.mp hc).1
    have erowy:=(sk.trans sy) _ _ erowb
    have lps:ps.length<=64:=by
     have:=congrArg Vz eps
     rw[Py,Py,Ql] at this
     lia
    refine gT ?_
    refine⟨_,rfl,ca,rfl,⟨_,SqL.of (sy _ _ hca)⟩,fun D2 hD2=>cJ (K:=K) (a:=ca) (xs:=c.map vN) (fun i ys σ' Hw=>(∃ u,σ'=[u,some (.ref rw)])/\aM Hy Hw/\Hw D2=some (.lst ys)/\ys=((c.take i).map (dh rs)).map vN)
     ⟨⟨_,rfl⟩,au hD2 _,aj,rfl⟩ (fun i ys σ' Hw _ h=>⟨SqL.of ((sy.trans h.2.1) _ _ hca),h.2.2.1⟩) ?_ ?_⟩
    ·rintro i ys x σ' Hw hx ⟨⟨u,rfl⟩,sw,eD2,rfl⟩
     obtain⟨k,hk,rfl⟩:=sJ hx
     have hkn:=c1 k (Qy hk)
     refine gT ?_
     refine⟨_,rfl,_,rfl,rw,_,_,_,rfl,rfl,SqL.of (sw _ _ erowy),pF (by lia),eD2,?_,⟨_,rfl⟩,aF sw hD2 _,aj,?_⟩
     ·rw[Py,Py,Ql]
      exact aD (by lia)
     ·rw[QF,hk,PQ,PQ]
      rfl
    ·rintro ys σ' Hw ⟨_,sw,eD2,rfl⟩
     rw[Py,Qk] at eD2
     refine⟨D2,_,rfl,SqL.of (eD2.trans (by rw[eG])),by rw[Py,Py]; lia,fun ms pms so l hl=>?_⟩
     have ems:=pY pms so
     have ems:ms=iN (mvC rs c):=ems
     subst ems
     generalize eHv:upd Hw l _=Hv
     obtain⟨gv,ev⟩:=aJ eHv hl
     have sv:=sw.trans gv
     have lD:l≠D:=fun z=>by rw[z,sw _ _ eD] at hl; cases hl
     refine⟨sv _ _ eD,aD (by rw[Py]; lia),⟨_,rfl⟩,aF (sy.trans sv) hD _,aj,ps++[(l,iN (mvC rs c))],by rw[PQ]; rfl,?_,fun q hq=>?_⟩
     ·rw[PQ,eps,QF,hc,PQ]
      rfl
     ·rcases List.mem_append.mp hq with h | h
      ·obtain⟨h1,h2⟩:=hps q h
       exact⟨by rw[bx h2]; exact sv _ _ h1,h2⟩
      ·rw[List.mem_singleton.mp h]
       exact⟨by rw[bx lD]; exact ev,lD⟩
   ·rintro zs σ' Hy ⟨_,sy,eD,ps,rfl,eps,hps⟩
    rw[luk,Qk] at eps
    have lps:ps.length=ks.length:=by
     have:=congrArg Vz eps
     rw[Py,Py] at this
     exact this
    have ndp:(ps.map (·.2)).Nodup:=by
     rw[eps]
     show (ks.map _).Pairwise (·≠·)
     rw[RP]
     refine Tw (fun {a b} ha hb hab e=>hab ?_) knd
     exact IV pm (kok a ha).1 (kok a ha).2.1 (kok b hb).1 (kok b hb).2.1 (Mi e)
    refine⟨D,ps,rfl,SqL.of eD,by lia,fun q hq=>SqL.of (hps q hq).1,ndp,fun qs pq srt l hl=>?_⟩
    have gn:=au hl (.lst (qs.map fun p=>V.ref p.1))
    have hq:∀ p∈ps,∃ c∈ks.map (mvC rs),p.2=iN c/\(upd Hy l (.lst (qs.map fun p=>V.ref p.1))) p.1=some (.lst (c.map vN))/\NoH p.1=none:=fun p hp=>by
     have hm2:p.2∈ps.map (·.2):=VN hp
     rw[eps] at hm2
     obtain⟨c,hc,e⟩:=List.mem_map.mp hm2
     refine⟨mvC rs c,VN hc,e.symm,?_,rfl⟩
     rw[eG]
     have:=gn _ _ (hps p hp).1
     rw[← e] at this
     exact this
    refine Rc _ _ ⟨l,_,qs.map fun p=>p.2.map V2,rfl,sk.trans (sy.trans gn),aj,LF.ordered hq fun p hp=>pq.mem_iff.mp hp,?_⟩
    refine DG pm lb okb hpn of low ka (fun d=>?_) ?_
    ·rw[List.mem_map]
     constructor
     ·rintro⟨p,hp,rfl⟩
      obtain⟨c,hc,e,_⟩:=hq p (pq.mem_iff.mp hp)
      obtain⟨c0,hc0,e0⟩:=List.mem_map.mp hc
      exact⟨c0,hc0,by rw[e,cY]; exact e0⟩
     ·rintro⟨c,hc,rfl⟩
      have:iN (mvC rs c)∈ps.map (·.2):=by
       rw[eps]
       exact VN (f:=fun c=>iN (mvC rs c)) hc
      obtain⟨p,hp,e⟩:=List.mem_map.mp this
      exact⟨p,pq.mem_iff.mpr hp,by rw[e,cY]⟩
    ·rw[RP]
     refine Tw (fun {x y} hx hy hxy=>?_) srt
     obtain⟨c,_,e,_⟩:=hq x (pq.mem_iff.mp hx)
     obtain⟨d,_,e',_⟩:=hq y (pq.mem_iff.mp hy)
     rw[e,e',cY,cY]
     rw[e,e'] at hxy
     exact hxy
  case q9 =>
  rintro σ Hc ⟨so,uo,js,rfl,sc,eso,lso,kj⟩
  have s4c:=s4b.trans sc
  have s6c:=s6b.trans sc
  have erowc:=sc _ _ erowb
  refine bw (fun σ Hd=>σ=[some (.ref p1),some (.int (n:Int)),some (.int (mo:Int)),some (.ref b),some (.ref f),some (.ref rw),some (.ref ob),some (.ref ba),some (.ref fo),some (.ref so),none]/\aM Hc Hd) ?q10 ?t10
  case t10 =>
   intro N Rc
   refine⟨_,rfl,_,rfl,ob,ba,n,mvB n rs bk,cj n rs fl,rfl,n6,hBo.mono s6c,bO,s6c _ _ eba,of',fun kr uk ks' Hk sk _ ek lk _ ka'=>?_⟩
   have ekj:=eO.uniq bO okb' of' low' ka' kj
   subst ekj
   have few:=ka'.few low'
   have p6:2 ^ n<=64:=by
    have:2 ^ n<=2 ^ 6:=Vy (by decide) n6
    lia
   have kl:∀ c∈ks',c.length<=1000:=fun c hc=>by have:=few.2 c hc; lia
   have lu1:=lk.length
   have lu2:=lso.length
   refine⟨_,rfl,.ref kr,.ref so,.lst (ks'.map cD),rfl,.lst ek (by lia) (lk.rep kl),.lst (sk _ _ eso) (by lia) ((lso.mono sk).rep kl),?_,fun Hz sz=>⟨_,rfl,gG (Rc _ _ ⟨rfl,sk.trans sz⟩)⟩⟩
   rw[Dm.dep]
   have:=Ac ks'
   lia
  case q10 =>
  rintro σ Hd ⟨rfl,sd⟩
  have s4d:=s4c.trans sd
  have s6d:=s6c.trans sd
  have erowd:=sd _ _ erowc
  refine bw (fun σ Hz=>True) ?qE ?tL
  case qE =>
   intro σ Hz _
   exact q Hz
  intro N Rc
  refine⟨_,rfl,_,rfl,by lia,by lia,iI (lo:=0) (n:=((n:Int)).toNat) (fun i σ Hx=>(∃ u,σ=[some (.ref p1),some (.int (n:Int)),some (.int (mo:Int)),some (.ref b),some (.ref f),some (.ref rw),some (.ref ob),some (.ref ba),some (.ref fo),some (.ref so),u])/\aM Hd Hx) ⟨⟨_,rfl⟩,aM.refl _⟩ ?_ (fun σ Hx h=>Rc _ _ trivial)⟩
  rintro i σ Hx hi0 ⟨⟨u,rfl⟩,sx⟩
  have hin:i < n:=by lia
  rw[Tu]
  refine gN ?_
  dsimp only
  have s6x:=s6d.trans sx
  have erowx:=sx _ _ erowd
  refine⟨_,rfl,_,rfl,_,rfl,_,rfl,rw,_,_,_,rfl,rfl,SqL.of erowx,pF (by lia),ob,ba,n,dh rs i,mvB n rs bk,cj n rs fl,rfl,hBo.mono s6x,bO,s6x _ _ eba,of',fun m m' r1 H1 st st' s1 fr1 er1=>?_⟩
  have s41:=s4d.trans (sx.trans s1)
  refine⟨_,rfl,_,rfl,_,rfl,b,f,n,i,bk,fl,rfl,hB.mono s41,lb,s41 _ _ hf,of,fun m2 m2' r2 H2 st2 st2' s2 fr2 er2=>?_⟩
  have tb:(lO bk i).length=n:=by rw[bH]; exact lb
  have tok:=qu (k:=i) okb
  have ht:=bJ tb tok of st2'
  have htm:=zG pm tb tok (yO hpn i) of ht
  rw[Jg pm lb hin] at htm
  have tb':(lO (mvB n rs bk) (dh rs i)).length=n:=by rw[bH]; exact bO
  rw[(bJ bO okb' of' st).uniq hh',(bJ tb' (qu okb') of' st').uniq htm,JB pm hh.1.1 ht.1.1 hin] at er1
  rw[(bJ lb okb of st2).uniq hh] at er2
  generalize eL:oR i hi (itF (Fd fl (lO bk i)) (rfF fl (lO bk i)) m2')=L at er1 er2
  have lL:∀ k∈L,k < n:=fun k hk=>by
   rw[← eL] at hk
   unfold oR at hk
   have:=List.mem_range.mp (List.mem_filter.mp hk).1
   rw[ht.1.1] at this
   exact this
  have lLl:L.length<=n:=by
   rw[← eL]
   unfold oR
   refine Q6 (Tg _ _) ?_
   rw[Qs,ht.1.1]
   exact PX _
  have erow2:=(s1.trans s2) _ _ erowx
  refine⟨r2,rfl,⟨_,SqL.of er2⟩,fun D hD=>cJ (K:=K) (a:=r2) (xs:=L.map vN) (fun i ys σ' Hw=>(∃ u,σ'=[u,some (.ref rw)])/\aM H2 Hw/\Hw D=some (.lst ys)/\ys=((L.take i).map (dh rs)).map vN)
   ⟨⟨_,rfl⟩,au hD _,aj,rfl⟩ (fun i ys σ' Hw _ h=>⟨SqL.of (h.2.1 _ _ er2),h.2.2.1⟩) ?_ ?_⟩
  ·rintro i ys x σ' Hw hx ⟨⟨u,rfl⟩,sw,eD2,rfl⟩
   obtain⟨k,hk,rfl⟩:=sJ hx
   have hkn:=lL k (Qy hk)
   refine gT ?_
   refine⟨_,rfl,_,rfl,rw,_,_,_,rfl,rfl,SqL.of (sw _ _ erow2),pF (by lia),eD2,?_,⟨_,rfl⟩,aF sw hD _,aj,?_⟩
   ·rw[Py,Py,Ql]
    exact aD (by lia)
   ·rw[QF,hk,PQ,PQ]
    rfl
  ·rintro ys σ' Hw ⟨_,sw,eD2,rfl⟩
   rw[Py,Qk] at eD2
   refine⟨D,_,rfl,SqL.of (eD2.trans (by rw[eG])),by rw[Py,Py]; lia,fun ms pms so l hl=>?_⟩
   have ems:ms=iN (mvC rs L):=pY pms so
   subst ems
   have gn:=au hl (.lst ((iN (mvC rs L)).map V.int))
   have lm:(mvC rs L).length<=1000:=by
    unfold mvC
    rw[(cG _).length_eq,Py]
    lia
   refine⟨.ref r1,.ref l,cD (mvC rs L),rfl,Ds ((s2.trans (sw.trans gn)) _ _ er1) lm,Ds (by rw[aj,eG]; rfl) lm,by rw[Hl]; decide,fun Hz sz=>⟨_,rfl,gG ⟨⟨_,rfl⟩,sx.trans (s1.trans (s2.trans (sw.trans (gn.trans sz))))⟩⟩⟩
theorem all_mk {l:W.OpenLaw} {w:QG} {K:Qu} {h:Rb} {mg:Rx->Option Value} {fa fq0 fq1 fq2 fq3 fq4 fq5 fq6 fq7 fq8 fq9 fq10 fq11 fq12 fq13 fq14 fq15 fq16 fq17 fq18 fq19 fq20 fq21 fq22 fq23 fq24 fq25 fq26 fq27 fq28 fq29 fq30 fq31 fq32 fq33 fq34 fq35 fq36:Addr} (X:K.In h) (G:h.Ns QD mg) (hfa:mg "law" = some (.ref fa))
  (qq0:HasDef K "lifted" qH fq0)
  (qq1:HasDef K "all_hold" lr fq1)
  (qq2:HasDef K "any_holds" jg fq2)
  (qq3:HasDef K "holds" uG fq3)
  (qq4:HasDef K "owes" zZ fq4)
  (qq5:HasDef K "last_step" je fq5)
  (qq6:HasDef K "what_is_due" gQ fq6)
  (qq7:HasDef K "roof" Ao fq7)
  (qq8:HasDef K "settled" mV fq8)
  (qq9:HasDef K "rise" Dh fq9)
  (qq10:HasDef K "fall" Cz fq10)
  (qq11:HasDef K "least" vQ fq11)
  (qq12:HasDef K "greatest" kW fq12)
  (qq13:HasDef K "without" ni fq13)
  (qq14:HasDef K "lost" Ai fq14)
  (qq15:HasDef K "held_step" jb fq15)
  (qq16:HasDef K "held" Dj fq16)
  (qq17:HasDef K "risers" qF fq17)
  (qq18:HasDef K "put_off" nF fq18)
  (qq19:HasDef K "knots" uH fq19)
  (qq20:HasDef K "_law_cell" j5 fq20)
  (qq21:HasDef K "_law_draws" jk fq21)
  (qq22:HasDef K "_law_same" jR fq22)
  (qq23:HasDef K "_law_under" jh fq23)
  (qq24:HasDef K "_law_crowd" jf fq24)
  (qq25:HasDef K "_law_term" kZ fq25)
  (qq26:HasDef K "_law_renamed" gU fq26)
  (qq27:HasDef K "_law_mine" jX fq27)
  (qq28:HasDef K "_law_pledge" iz fq28)
  (qq29:HasDef K "_law_book" kO fq29)
  (qq30:HasDef K "_law_giving" iJ fq30)
  (qq31:HasDef K "_law_scene" jr fq31)
  (qq32:HasDef K "_law_picks" ji fq32)
  (qq33:HasDef K "_law_order" iZ fq33)
  (qq34:HasDef K "_law_moved" jj fq34)
  (qq35:HasDef K "_law_moved_book" fB fq35)
  (qq36:HasDef K "law" JP fq36)
  (z_len:Ur K QD "len" = some none)
  (z_range:Ur K QD "range" = some none)
  (z_all:Ur K QD "all" = some none)
  (z_isinstance:Ur K QD "isinstance" = some none)
  (z_int:Ur K QD "int" = some none)
  (z_bool:Ur K QD "bool" = some none)
  (z_str:Ur K QD "str" = some none)
  (z_list:Ur K QD "list" = some none)
  (z_tuple:Ur K QD "tuple" = some none)
  (z_abs:Ur K QD "abs" = some none)
  (z_max:Ur K QD "max" = some none)
  (z_min:Ur K QD "min" = some none)
  (z_sum:Ur K QD "sum" = some none)
  (z_sorted:Ur K QD "sorted" = some none)
  (z_zip:Ur K QD "zip" = some none)
  (z_reversed:Ur K QD "reversed" = some none)
  (z_divmod:Ur K QD "divmod" = some none)
  (z_set:Ur K QD "set" = some none)
  (z_any:Ur K QD "any" = some none)
  (z_enumerate:Ur K QD "enumerate" = some none)
  : ∃ fd:Um,(∀ (s:PB) (v:Value),W4 s fd ⟨[v],[]⟩ [("_law_script",v)])/\∀ base:Rb,K.In base->base.Ns QD mg->fj l.prog w K mg base CX0 16 fa fd ["_law_script"] (FQ K):=by
 have e:=hfa.symm.trans (qq36.name X G)
 cases e
 have B:Bt mg:=⟨Ru X G z_len,Ru X G z_range,Ru X G z_all,Ru X G z_isinstance,Ru X G z_int,Ru X G z_bool,Ru X G z_str,Ru X G z_list,Ru X G z_tuple,Ru X G z_abs,Ru X G z_max,Ru X G z_min,Ru X G z_sum,Ru X G z_sorted,Ru X G z_zip,Ru X G z_reversed,Ru X G z_divmod,Ru X G z_set,Ru X G z_any,Ru X G z_enumerate⟩
 obtain⟨_,Fq36,bq36⟩:=qq36.law (y:="_law_script") fun _ _ _ _ _ _ s v=>.of_eq rfl
 refine⟨_,bq36,fun base _ _=>?_⟩
 have Dq20:=qq20.df (P:=l.prog) (w:=w) (base:=base) X G (cu fun _ _ _ _ _ _ _ _=>rfl) fun _ Fq20=>vh Fq20 B
 have Dq21:=qq21.df (P:=l.prog) (w:=w) (base:=base) X G (cu fun _ _ _ _ _ _ _ _=>rfl) fun _ Fq21=>tO Fq21 B
 have Dq23:=qq23.df (P:=l.prog) (w:=w) (base:=base) X G (cu fun _ _ _ _ _ _ _ _=>rfl) fun _ Fq23=>tG Fq23 B
 have Dq24:=qq24.df (P:=l.prog) (w:=w) (base:=base) X G (cu fun _ _ _ _ _ _ _ _=>rfl) fun _ Fq24=>rF Fq24 B
 have Dq30:=qq30.df (P:=l.prog) (w:=w) (base:=base) X G (vC fun _ _ _ _ _ _ _ _ _=>rfl) fun _ Fq30=>ql Fq30 B Dq21
 have S0:Df l.prog w K mg base "_law_same" 0 ["_law_found","_law_due"] (pD 0):=qq22.df X G (cu fun _ _ _ _ _ _ _ _=>rfl) fun _ _=>same_none
 have S1:=qq22.df (P:=l.prog) (w:=w) (base:=base) X G (cu fun _ _ _ _ _ _ _ _=>rfl) fun _ Fq22=>gY Fq22 B S0
 have S2:=qq22.df (P:=l.prog) (w:=w) (base:=base) X G (cu fun _ _ _ _ _ _ _ _=>rfl) fun _ Fq22=>gY Fq22 B S1
 have S3:=qq22.df (P:=l.prog) (w:=w) (base:=base) X G (cu fun _ _ _ _ _ _ _ _=>rfl) fun _ Fq22=>gY Fq22 B S2
 have S4:=qq22.df (P:=l.prog) (w:=w) (base:=base) X G (cu fun _ _ _ _ _ _ _ _=>rfl) fun _ Fq22=>gY Fq22 B S3
 have T0:Df l.prog w K mg base "_law_term" 1 ["_law_cell_here","_law_n","_law_deep","_law_most"] (pC 0):=qq25.df X G (u0 fun _ _ _ _ _ _ _ _ _ _=>rfl) fun _ _=>term_none
 have T1:=qq25.df (P:=l.prog) (w:=w) (base:=base) X G (u0 fun _ _ _ _ _ _ _ _ _ _=>rfl) fun _ Fq25=>jm Fq25 B Dq21 Dq23 Dq24 T0
 have T2:=qq25.df (P:=l.prog) (w:=w) (base:=base) X G (u0 fun _ _ _ _ _ _ _ _ _ _=>rfl) fun _ Fq25=>jm Fq25 B Dq21 Dq23 Dq24 T1
 have T3:=qq25.df (P:=l.prog) (w:=w) (base:=base) X G (u0 fun _ _ _ _ _ _ _ _ _ _=>rfl) fun _ Fq25=>jm Fq25 B Dq21 Dq23 Dq24 T2
 have R0:Df l.prog w K mg base "_law_renamed" 0 ["_law_term_here","_law_row"] (uZ K 0):=qq26.df X G (cu fun _ _ _ _ _ _ _ _=>rfl) fun _ _=>DN
 have R1:=qq26.df (P:=l.prog) (w:=w) (base:=base) X G (cu fun _ _ _ _ _ _ _ _=>rfl) fun _ Fq26=>eU Fq26 B R0
 have R2:=qq26.df (P:=l.prog) (w:=w) (base:=base) X G (cu fun _ _ _ _ _ _ _ _=>rfl) fun _ Fq26=>eU Fq26 B R1
 have R3:=qq26.df (P:=l.prog) (w:=w) (base:=base) X G (cu fun _ _ _ _ _ _ _ _=>rfl) fun _ Fq26=>eU Fq26 B R2
 have Dq27:=qq27.df (P:=l.prog) (w:=w) (base:=base) X G (Ms fun _ _ _ _ _ _ _ _ _ _ _=>rfl) fun _ Fq27=>uN Fq27 B T3 R3
 have Dq28:=qq28.df (P:=l.prog) (w:=w) (base:=base) X G (Ms fun _ _ _ _ _ _ _ _ _ _ _=>rfl) fun _ Fq28=>pR Fq28 B Dq21 Dq23 Dq24 Dq27
 have Dq29:=qq29.df (P:=l.prog) (w:=w) (base:=base) X G (u0 fun _ _ _ _ _ _ _ _ _ _=>rfl) fun _ Fq29=>uV Fq29 B Dq20 Dq21 Dq23 Dq28
 have Dq31:=qq31.df (P:=l.prog) (w:=w) (base:=base) X G (bind1 fun _ _ _ _ _ _ _=>rfl) fun _ Fq31=>rM Fq31 B Dq20 Dq21 Dq30 Dq29
 have H0:Df l.prog w K mg base "holds" 0 ["term","giving"] (ju K 0):=qq3.df X G (cu fun _ _ _ _ _ _ _ _=>rfl) fun _ _=>yx
 have A1:=qq1.df (P:=l.prog) (w:=w) (base:=base) X G (cu fun _ _ _ _ _ _ _ _=>rfl) fun _ Fq1=>gW Fq1 B H0
 have Y1:=qq2.df (P:=l.prog) (w:=w) (base:=base) X G (cu fun _ _ _ _ _ _ _ _=>rfl) fun _ Fq2=>fX Fq2 B H0
 have H1:=qq3.df (P:=l.prog) (w:=w) (base:=base) X G (cu fun _ _ _ _ _ _ _ _=>rfl) fun _ Fq3=>lZ Fq3 B A1 Y1
 have A2:=qq1.df (P:=l.prog) (w:=w) (base:=base) X G (cu fun _ _ _ _ _ _ _ _=>rfl) fun _ Fq1=>gW Fq1 B H1
 have Y2:=qq2.df (P:=l.prog) (w:=w) (base:=base) X G (cu fun _ _ _ _ _ _ _ _=>rfl) fun _ Fq2=>fX Fq2 B H1
 have H2:=qq3.df (P:=l.prog) (w:=w) (base:=base) X G (cu fun _ _ _ _ _ _ _ _=>rfl) fun _ Fq3=>lZ Fq3 B A2 Y2
 have A3:=qq1.df (P:=l.prog) (w:=w) (base:=base) X G (cu fun _ _ _ _ _ _ _ _=>rfl) fun _ Fq1=>gW Fq1 B H2
 have Y3:=qq2.df (P:=l.prog) (w:=w) (base:=base) X G (cu fun _ _ _ _ _ _ _ _=>rfl) fun _ Fq2=>fX Fq2 B H2
 have H3:=qq3.df (P:=l.prog) (w:=w) (base:=base) X G (cu fun _ _ _ _ _ _ _ _=>rfl) fun _ Fq3=>lZ Fq3 B A3 Y3
 have A4:=qq1.df (P:=l.prog) (w:=w) (base:=base) X G (cu fun _ _ _ _ _ _ _ _=>rfl) fun _ Fq1=>gW Fq1 B H3
 have Y4:=qq2.df (P:=l.prog) (w:=w) (base:=base) X G (cu fun _ _ _ _ _ _ _ _=>rfl) fun _ Fq2=>fX Fq2 B H3
 have H4:=qq3.df (P:=l.prog) (w:=w) (base:=base) X G (cu fun _ _ _ _ _ _ _ _=>rfl) fun _ Fq3=>lZ Fq3 B A4 Y4
 have Dq4:=qq4.df (P:=l.prog) (w:=w) (base:=base) X G (cu fun _ _ _ _ _ _ _ _=>rfl) fun _ Fq4=>Jl Fq4 B H4
 have Dq5:=qq5.df (P:=l.prog) (w:=w) (base:=base) X G (bind1 fun _ _ _ _ _ _ _=>rfl) fun _ Fq5=>tE Fq5 B
 have Dq6:=qq6.df (P:=l.prog) (w:=w) (base:=base) X G (vC fun _ _ _ _ _ _ _ _ _=>rfl) fun _ Fq6=>oU Fq6 B Dq4
 have Dq7:=qq7.df (P:=l.prog) (w:=w) (base:=base) X G (cu fun _ _ _ _ _ _ _ _=>rfl) fun _ Fq7=>J4 Fq7 B Dq5
 have Dq8:=qq8.df (P:=l.prog) (w:=w) (base:=base) X G (vC fun _ _ _ _ _ _ _ _ _=>rfl) fun _ Fq8=>yJ Fq8 B Dq6
 have Dq9:=qq9.df (P:=l.prog) (w:=w) (base:=base) X G (cu fun _ _ _ _ _ _ _ _=>rfl) fun _ Fq9=>Jd Fq9 B Dq8
 have Dq10:=qq10.df (P:=l.prog) (w:=w) (base:=base) X G (cu fun _ _ _ _ _ _ _ _=>rfl) fun _ Fq10=>JN (by decide) Fq10 B Dq8 Dq7
 have Dq11:=qq11.df (P:=l.prog) (w:=w) (base:=base) X G (cu fun _ _ _ _ _ _ _ _=>rfl) fun _ Fq11=>Ft Fq11 B Dq9
 have Dq12:=qq12.df (P:=l.prog) (w:=w) (base:=base) X G (cu fun _ _ _ _ _ _ _ _=>rfl) fun _ Fq12=>vI Fq12 B Dq10
 have Dq13:=qq13.df (P:=l.prog) (w:=w) (base:=base) X G (vC fun _ _ _ _ _ _ _ _ _=>rfl) fun _ Fq13=>zc Fq13 B Dq12
 have Dq14:=qq14.df (P:=l.prog) (w:=w) (base:=base) X G (vC fun _ _ _ _ _ _ _ _ _=>rfl) fun _ Fq14=>Ke Fq14 B Dq12 Dq13
 have Dq32:=qq32.df (P:=l.prog) (w:=w) (base:=base) X G (cu fun _ _ _ _ _ _ _ _=>rfl) fun _ Fq32=>rK Fq32 B Dq21
 have R4:=qq26.df (P:=l.prog) (w:=w) (base:=base) X G (cu fun _ _ _ _ _ _ _ _=>rfl) fun _ Fq26=>eU Fq26 B R3
 have Dq0:=qq0.df (P:=l.prog) (w:=w) (base:=base) X G (vC fun _ _ _ _ _ _ _ _ _=>rfl) fun _ Fq0=>CQ Fq0 B
 have Dq15:=qq15.df (P:=l.prog) (w:=w) (base:=base) X G (u0 fun _ _ _ _ _ _ _ _ _ _=>rfl) fun _ Fq15=>rn Fq15 B Dq4
 have Dq16:=qq16.df (P:=l.prog) (w:=w) (base:=base) X G (vC fun _ _ _ _ _ _ _ _ _=>rfl) fun _ Fq16=>Ju Fq16 B Dq15
 have Dq17:=qq17.df (P:=l.prog) (w:=w) (base:=base) X G (cu fun _ _ _ _ _ _ _ _=>rfl) fun _ Fq17=>CG Fq17 B
 have Dq18:=qq18.df (P:=l.prog) (w:=w) (base:=base) X G (u0 fun _ _ _ _ _ _ _ _ _ _=>rfl) fun _ Fq18=>yW Fq18 B Dq17 Dq0 Dq16
 have Dq19:=qq19.df (P:=l.prog) (w:=w) (base:=base) X G (cu fun _ _ _ _ _ _ _ _=>rfl) fun _ Fq19=>DY (by decide) Fq19 B Dq11 Dq12 Dq18 Dq17
 have Dq33:=qq33.df (P:=l.prog) (w:=w) (base:=base) X G (cu fun _ _ _ _ _ _ _ _=>rfl) fun _ Fq33=>sZ Fq33 B Dq32
 have Dq34:=qq34.df (P:=l.prog) (w:=w) (base:=base) X G (cu fun _ _ _ _ _ _ _ _=>rfl) fun _ Fq34=>sU Fq34 B
 have Dq35:=qq35.df (P:=l.prog) (w:=w) (base:=base) X G (cu fun _ _ _ _ _ _ _ _=>rfl) fun _ Fq35=>kh Fq35 B R4
 exact Lz Fq36 B Dq31 Dq33 Dq20 Dq35 Dq34 Dq9 Dq10 S3 Dq12 Dq11 Dq19 Dq14
theorem walk {l:W.OpenLaw} {q:Qx} {loose:List Rx} {XP:(Rx->Option Value)->Rb->Prop} {YP:QG->Rb->Prop} {d:DefRec} {K:Params->Qu} (hn:l.most=some 63) (hdf:d.params.defaults=[])
  (hY:∀ (w:QG) (h:Rb),YP w h->(K w.params).In h)
  (F:∀ (w:QG) (mg:Rx->Option Value) (fa:Addr) (h:Rb),(K w.params).In h->h.Ns QD mg->mg d.name=some (.ref fa) →
   ∃ fd:Um,(∀ (s:PB) (u:Value),W4 s fd ⟨[u],[]⟩ [("_law_script",u)])/\∀ base:Rb,(K w.params).In base->base.Ns QD mg->fj l.prog w (K w.params) mg base CX0 16 fa fd ["_law_script"] (FQ (K w.params))) :
  W.WalkO q loose XP YP l.row.toRowW d [] (fun f vs=>PySem.call f vs) :=
 L2.JX (n:=63) (k:=16) (x:="_law_script") (CX:=fun _=>CX0) (sp:=fun w=>FQ (K w.params)) hn (by decide) hdf ⟨rfl,by decide,by decide⟩ hY F (fun _ _ a ns hl _ hS=>⟨a,ns,rfl,hS,hl,fun _=>rfl⟩) fun _ _ _ _ _ z=>z
end My
end
open PySem PySem.W PyProof.Rows
namespace PySem.Challenge.cw_loveboon_k23_whole_folk_numbered_otherwi_holds
theorem tw13307044700060332234:True:=trivial
theorem tw6164734125354496719:True:=trivial
theorem tw15586809894873780607:True:=trivial
theorem tw18279904467798049010:True:=trivial
theorem tw16155013842109409597:True:=trivial
theorem tw8889175855837933361:True:=trivial
theorem tw1139536510716342352:True:=trivial
theorem tw7015076782234799996:True:=trivial
theorem tw13180589861563629818:True:=trivial
theorem tw14899265752982858616:True:=trivial
theorem tw3767945573716027561:True:=trivial
theorem tw13144235835055088781:True:=trivial
theorem tw17432113761124348164:True:=trivial
theorem tw7939874647076202174:True:=trivial
theorem tw3353562229543274228:True:=trivial
theorem tw16379359574072457561:True:=trivial
theorem tw4764370330838156344:True:=trivial
theorem tw10487465795381031840:True:=trivial
theorem tw2590053574160805820:True:=trivial
theorem tw12019998535329365791:True:=trivial
end PySem.Challenge.cw_loveboon_k23_whole_folk_numbered_otherwi_holds
set_option maxRecDepth 100000 in
set_option maxHeartbeats 0 in
theorem PySem.Challenge.cw_loveboon_k23_whole_folk_numbered_otherwi_holds : PySem.Challenge.rw_loveboon_k23_whole_folk_numbered_otherwi.Holds := by
 w_on; o_law; k_head; (case hw=>w_witness2)
 k_fill
 refine My.walk (l:=PySem.Challenge.rw_loveboon_k23_whole_folk_numbered_otherwi) rfl rfl (fun w h Y=>W.kIn_of Y) ?F
 case F =>
  intro w mg fa h KX G hmg
  refine' My.all_mk KX G hmg ?qq0 ?qq1 ?qq2 ?qq3 ?qq4 ?qq5 ?qq6 ?qq7 ?qq8 ?qq9 ?qq10 ?qq11 ?qq12 ?qq13 ?qq14 ?qq15 ?qq16 ?qq17 ?qq18 ?qq19 ?qq20 ?qq21 ?qq22 ?qq23 ?qq24 ?qq25 ?qq26 ?qq27 ?qq28 ?qq29 ?qq30 ?qq31 ?qq32 ?qq33 ?qq34 ?qq35 ?qq36 ?z_len ?z_range ?z_all ?z_isinstance ?z_int ?z_bool ?z_str ?z_list ?z_tuple ?z_abs ?z_max ?z_min ?z_sum ?z_sorted ?z_zip ?z_reversed ?z_divmod ?z_set ?z_any ?z_enumerate
  (case qq0=>apply L2.HasDef.mk <;> k_is)
  (case qq1=>apply L2.HasDef.mk <;> k_is)
  (case qq2=>apply L2.HasDef.mk <;> k_is)
  (case qq3=>apply L2.HasDef.mk <;> k_is)
  (case qq4=>apply L2.HasDef.mk <;> k_is)
  (case qq5=>apply L2.HasDef.mk <;> k_is)
  (case qq6=>apply L2.HasDef.mk <;> k_is)
  (case qq7=>apply L2.HasDef.mk <;> k_is)
  (case qq8=>apply L2.HasDef.mk <;> k_is)
  (case qq9=>apply L2.HasDef.mk <;> k_is)
  (case qq10=>apply L2.HasDef.mk <;> k_is)
  (case qq11=>apply L2.HasDef.mk <;> k_is)
  (case qq12=>apply L2.HasDef.mk <;> k_is)
  (case qq13=>apply L2.HasDef.mk <;> k_is)
  (case qq14=>apply L2.HasDef.mk <;> k_is)
  (case qq15=>apply L2.HasDef.mk <;> k_is)
  (case qq16=>apply L2.HasDef.mk <;> k_is)
  (case qq17=>apply L2.HasDef.mk <;> k_is)
  (case qq18=>apply L2.HasDef.mk <;> k_is)
  (case qq19=>apply L2.HasDef.mk <;> k_is)
  (case qq20=>apply L2.HasDef.mk <;> k_is)
  (case qq21=>apply L2.HasDef.mk <;> k_is)
  (case qq22=>apply L2.HasDef.mk <;> k_is)
  (case qq23=>apply L2.HasDef.mk <;> k_is)
  (case qq24=>apply L2.HasDef.mk <;> k_is)
  (case qq25=>apply L2.HasDef.mk <;> k_is)
  (case qq26=>apply L2.HasDef.mk <;> k_is)
  (case qq27=>apply L2.HasDef.mk <;> k_is)
  (case qq28=>apply L2.HasDef.mk <;> k_is)
  (case qq29=>apply L2.HasDef.mk <;> k_is)
  (case qq30=>apply L2.HasDef.mk <;> k_is)
  (case qq31=>apply L2.HasDef.mk <;> k_is)
  (case qq32=>apply L2.HasDef.mk <;> k_is)
  (case qq33=>apply L2.HasDef.mk <;> k_is)
  (case qq34=>apply L2.HasDef.mk <;> k_is)
  (case qq35=>apply L2.HasDef.mk <;> k_is)
  (case qq36=>apply L2.HasDef.mk <;> k_is)
  (case z_len=>k_is)
  (case z_range=>k_is)
  (case z_all=>k_is)
  (case z_isinstance=>k_is)
  (case z_int=>k_is)
  (case z_bool=>k_is)
  (case z_str=>k_is)
  (case z_list=>k_is)
  (case z_tuple=>k_is)
  (case z_abs=>k_is)
  (case z_max=>k_is)
  (case z_min=>k_is)
  (case z_sum=>k_is)
  (case z_sorted=>k_is)
  (case z_zip=>k_is)
  (case z_reversed=>k_is)
  (case z_divmod=>k_is)
  (case z_set=>k_is)
  (case z_any=>k_is)
  (case z_enumerate=>k_is)
