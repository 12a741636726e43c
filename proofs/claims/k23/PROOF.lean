import PyProof.Rows.All
import Wide.All
import OpenK.AllK
import Wide.FinOn
import Lean
import PyProof.EqAt
import PyProof.EqKinds
import PyProof.TupleCall
import PyProof.NeKinds
import PySem.Challenge.RW_loveboon_k23_whole_folk_numbered_otherwi
noncomputable section
open Array renaming getElem?_eq_getElem→Qm,length_toList→Qs,getElem?_toList→QR,getD_eq_getD_getElem?→RM,getElem?_eq_none→Ue
open Bool renaming false_ne_true→PQ,and_eq_true→Ru,eq_iff_iff→VF,false_eq_true→V7,false_or→W4,or_eq_true→X6
open Decidable renaming byContradiction→UW
open False renaming elim→Ux
open ForInStep renaming yield→Va
open Int renaming toNat_natCast→Qx,emod_lt_of_pos→QL,emod_nonneg→Ri,le_refl→Rx,zero_add→Tp,eq_ofNat_of_zero_le→TV,toNat→VP
open List renaming length_map→Pq,getElem?_eq_getElem→Px,getD_eq_getElem?_getD→Pz,map_append→PJ,range→PL,mem_cons_self→PN,size_toArray→P0,mem_cons_of_mem→Qc,replicate→Qd,length_append→Qf,take_length→Qg,length_take→Qh,getElem?_map→Qj,length_cons→Qk,length_range→Qn,mem_of_getElem?→Qu,take_add_one→Qz,map_cons→QH,getElem_mem→Q9,mem_cons→Rb,length_replicate→Rf,getElem?_eq_none→Rg,foldl_cons→Rh,lookup_cons→Rn,mem_append_right→Rq,take_zero→Rt,not_mem_nil→RD,getElem?_range→RG,pairwise_map→RK,map_map→RL,getElem_of_mem→RP,pairwise_cons→RX,replicate_succ→Sg,filter_cons→Ss,range_succ→Sw,append_nil→Sx,map_congr_left→Sy,sum_cons→S5,length_filter_le→Tc,drop_eq_getElem_cons→Te,getElem_toArray→Tj,append_assoc→Tn,take_succ_cons→Tv,getElem?_replicate→TQ,mem_singleton→Ud,zipWith→UT,forIn_cons→U8,find?_cons→U9,map_nil→Vg,forIn_nil→Vh,flatten_cons→Vi,drop_of_length_le→Vj,foldl→Vn,any_cons→Vq,all_cons→Vr,length→Vv,mem_filter→VB,mem_map_of_mem→VH,length_zipWith→VJ,filterMap_cons→VL,sum→V4,getElem?_append_right→V5,filter_append→V6,filter_congr→Wc,length_erase_of_mem→Wh,zipIdx_cons→Wm,length_drop→Wn,getElem_inj→Wo,zipIdx_nil→WD,nil_append→WK,getElem?_toArray→WL,replicate_succ'→WQ,mem_erase_of_ne→WR,mem_append_left→WT,map_inj_right→Xa,toArray→Xl,ext_getElem?→Xm,eraseIdxIfInBounds_toArray→Xu,eq_nil_of_length_eq_zero→XR,of_mem_zip→X3
open List.Pairwise renaming imp_of_mem→Tr,nil→Xn
open Nat renaming le_refl→PK,lt_of_lt_of_le→Ql,ne_of_lt→Qq,zero_le→Qw,le_trans→Q0,lt_succ_of_lt→Rv,ne_of_gt→RV,lt_or_ge→R8,lt_irrefl→SX,lt_succ_self→S8,le_succ→Ti,lt_of_le_of_lt→Uc,le_of_lt→UL,pow_le_pow_right→Vu,not_lt_zero→Vz,lt_of_succ_lt_succ→Wv,succ_le_succ→XF
open Ne renaming symm→Tu
open Option renaming map_some→Wz
open Option.some renaming inj→QC
open Or renaming inl→Qi,inr→Wg
open PyProof.Rows renaming callWith_type1→Q5,IntsAre→Ra,step_dedup→RZ,seqObj→Sq,SortKind→Vt,pairsOf→VM,AllBare→Ww,envOfC→W6,slot_tuple_getitem→Xr,callWith_builtin1→XD
open PyProof.Rows.F renaming plain_set_update_loop→Wq
open PySem renaming wpAny_bind→Pn,Shared→Pu,wpAny_pure→Py,wpAny→PX,model→Qo,Program→Qt,starEach→Qv,mainGlobals→Qy,wpAny_newObj_type→QD,World→QF,Around→QG,wpAny_loadPart'→QJ,wpAny_field→QS,wpAny_callSpecial?_slot→QW,bootBuiltins→QZ,wpAny_call_entry→Q6,Heap→Q7,wpAny_seqItems→Q8,Str→Rr,wpAny_setField_rec→Rz,rawInt→RB,mem_of_lookup→RN,codeAny_builtin→RQ,wpAny_setField→R6,Builtin→Sd,wpAny_Call_Name_kw→Sh,plainId_quiet→Su,wpAny_mono→Sv,wpAny_of_eq→SM,wpAny_holding→SN,wpAny_attempt→SQ,eval→S6,compareOp→S7,builtinLookup_eq_fast→S9,pyNext→Td,wpAny_ite_false→Tf,wpAny_truthy_bool→Th,Obj→Tq,wpAny_isInstance→Tw,isSubtype_type→Tz,firstArgMember→TF,wpAny_letGo→TY,wpAny_pyIter_tuple→T9,call_meets→Ua,wpAny_passesOwn→Ug,IsZip→Uh,FuncData→Ui,wpAny_onRaise→Uj,behindInMarks→Uk,backTo→Ul,wpAny_setState_of→Uo,wpAny_pyIter_list→Up,wpAny_rule→Ur,sizeLine_eq→Us,binaryOp→Ut,SetTable→Uw,wpAny_askSetting→Uz,intKind→UG,codeAny→UJ,IsPair→U3,wpAny_updateSeq→U6,typeLookup_type→U7,sysModules→Vc,Scope→Ve,Pos→Vk,pickOrder→Vl,assignEach→Vm,sliceBounds→Vs,wpAny_specialOf→Vx,argsOk→Vy,wpAny_setEntries_of→VG,wpAny_tryCatch→VR,typeIs_int→V0,isSubtype_stop→V1,NameKind→V3,wpAny_binaryOp_repeat_ref→V8,wpAny_pyIter_enum→Wa,signature?_of→We,wpAny_pyIter_zip→Wj,seqItems?→Wk,codeAny_mono→Ws,wpAny_execs_nil→Wx,letOwnedTupleGo→Wy,wpAny_updateSeq_pair→WM,getItem→WW,BindsTo→WX,wpAny_handled→WY,field→W0,tupleKind_room_in1→W5,Result→W8,wpAny_pyIter_slot→Xc,valueAt→Xd,relayAll→Xe,foldedSetIterable→Xf,callerA→Xg,callType_new→Xh,updateSeq→Xv,tupleKind→Xw,seqIndex?→Xx,noFill_tuple_add→Xy,newExc→Xz,checkBuiltinCall→XC,IsPart→XH,wpAny_throw→XN,subscripted→XQ,wpAny_ite_split→XS,spliced→X7,setNext→X8
open PySem.Around renaming under_plainId→Ry
open PySem.Builtin.Builtins renaming bindParams→VN
open PySem.Builtin.List renaming listTooLong→Wi,listLengthHint→Yd,listExtendWith→Ye
open PySem.Builtin.Slice renaming slicePlaces→U0,sliceAdjust→V9
open PySem.Builtin.SmallTypes renaming nextOf→QM,ownedTupleIsFree→QX,ownedTupleHandOut→SJ,newClass→Yc
open PySem.Builtin.Tuple renaming tupleExact→U5
open PySem.Calls renaming spliced_cons→Xb,spliced_nil→Xq
open PySem.F renaming plainAttrs_list→QB,type_list_append→Rk,slot_list_append→Rm,slot_zip_next→Tg,plain_max_loop→TX,slot_tuple_iterator_next→Uy,slot_int_rmul→Vb,args_zip_next_1→Wd,args_tuple_add_2→Wf,entry_tuple_add→Wl,entry_zip_next→Wr,slot_tuple_add→Wu,args_int_rmul_2→Xp,entry_max_loop→XJ,entry_int_rmul→XM,fills_int_mul→X4,args_tuple_iterator_next_1→X5,entry_tuple_iterator_next→Yb
open PySem.Heap renaming get?_push_of_some→Pr,get?_push_size→PB,lt_size→Qa,get?_update_other→QV,size_push→Q3,get?_update_self→Q4,SameBut→R9,get?_push_ne→Uq,size_update→Vo,get?_push_cases→Vw,IsTuple→Xo
open PySem.Heap.SameBut renaming update→Rj
open PySem.NameKind renaming free→R5,cell→W3
open PySem.Obj renaming mapSeq→RJ,mapFields→Vp,putSet→W9
open PySem.Paired renaming length→W2
open PySem.PassesOwn renaming never→Ro
open PySem.SeqAt.EqAt renaming int_int→W7
open PySem.SetTable renaming below→RC,grown→Uv
open PySem.SetTable.below renaming go→Vd
open PySem.SetTable.probe renaming go→Xj
open PySem.Shared renaming heap→Wb
open PySem.Str renaming ofString→R7
open PySem.Value renaming ref→QK,none→QT,int→TJ,type→Ub
open PySem.W renaming Frag→Qe,Frag→Qp,mg_none_of→Rp,kia_one→RT,nsIn→Um,kitOne→U4,fnOf→Vf,keepIn→V2,codeIn→WN,methodObj→Xk,instObj→XX
open PySem.W.KasT renaming kasWp→Tt,kasWp_bind→VD
open Sum renaming inl→Wt,inr→Xi
open True renaming intro→Uu
set_option Elab.async false
set_option linter.all false
set_option maxRecDepth 100000
namespace L2
open PySem PySem.Spec PyProof.Rows
abbrev Key:=Sum Int Rr
def yF:Key->Value->Bool
 | .inl k,v=>Value.isInt k v
 | .inr x,v=>Value.isStrOf x v
def Pk (w:QF):Key->Int
 | .inl k=>hashInt k
 | .inr x=>hashStr w x
theorem cu:∀ {k:Key} {v:Value},yF k v=true->(∃ i t,k=Wt i/\v=TJ i t)∨(∃ x t,k=Xi x/\v=Value.str x t)
 | .inl i,v,h=>by
  obtain⟨t,e⟩:=Value.isInt_shape (k:=i) (v:=v) h
  exact .inl ⟨i,t,rfl,e⟩
 | .inr x,v,h=>by
  obtain⟨t,e⟩:=Value.isStrOf_shape (x:=x) (v:=v) h
  exact .inr ⟨x,t,rfl,e⟩
theorem Bo (i:Int) (t:Tok):yF (.inl i) (.int i t)=true:=by simp [yF,Value.isInt]
theorem CQ (x:Rr) (t:Tok):yF (.inr x) (.str x t)=true:=by simp [yF,Value.isStrOf]
theorem Mv (a b:Int):decide ((Wt a:Key)=Wt b)=(a == b):=by
 by_cases e:a=b
 ·subst e; simp
 ·have h:¬ (Wt a:Key)=Wt b:=fun q=>e (Sum.inl.inj q)
  rw[decide_eq_false h]
  exact (beq_eq_false_iff_ne.mpr e).symm
theorem Kz (a b:Rr):decide ((Xi a:Key)=Xi b)=decide (a=b):=by
 by_cases e:a=b
 ·subst e; simp
 ·have h:¬ (Xi a:Key)=Xi b:=fun q=>e (Sum.inr.inj q)
  rw[decide_eq_false h,decide_eq_false e]
theorem KN (a:Int) (b:Rr):decide ((Wt a:Key)=Xi b)=false:=decide_eq_false (fun q=>nomatch q)
theorem Mi (a:Rr) (b:Int):decide ((Xi a:Key)=Wt b)=false:=decide_eq_false (fun q=>nomatch q)
def dW (prog:Qt) (w:QF):PySem.KeyKind prog w Key where
 is:=yF
 hash:=Pk w
 inj:=fun v a b ha hb=>by
  rcases cu ha with⟨i,t,rfl,rfl⟩ | ⟨x,t,rfl,rfl⟩
  ·rcases cu hb with⟨j,u,rfl,e⟩ | ⟨y,u,rfl,e⟩
   ·injection e with e1 _; rw[e1]
   ·exact nomatch e
  ·rcases cu hb with⟨j,u,rfl,e⟩ | ⟨y,u,rfl,e⟩
   ·exact nomatch e
   ·injection e with e1 _; rw[e1]
 byValue:=fun k v h=>by
  rcases cu h with⟨i,t,rfl,rfl⟩ | ⟨x,t,rfl,rfl⟩ <;> rfl
 pyHash:=fun hv h=>by
  rcases cu hv with⟨i,t,rfl,rfl⟩ | ⟨x,t,rfl,rfl⟩
  ·exact wpAny_pyHash_int h
  ·exact wpAny_pyHash_str h
 eqBool:=fun hu hv h=>by
  rcases cu hu with⟨i,t,rfl,rfl⟩ | ⟨x,t,rfl,rfl⟩
  ·rcases cu hv with⟨j,u,rfl,rfl⟩ | ⟨y,u,rfl,rfl⟩
   ·rw[Mv] at h; exact wpAny_eqBool_int h
   ·rw[KN] at h; exact SeqAt.EqAt.int_str i t y u _ _ _ _ h
  ·rcases cu hv with⟨j,u,rfl,rfl⟩ | ⟨y,u,rfl,rfl⟩
   ·rw[Mi] at h; exact SeqAt.EqAt.str_int x t j u _ _ _ _ h
   ·rw[Kz] at h; exact wpAny_eqBool_str h
 «strs»:=fun k x t v h=>by
  rcases cu h with⟨i,u,rfl,e⟩ | ⟨y,u,rfl,e⟩
  ·exact nomatch e
  ·injection e with e1 _
   subst e1
   cases v <;> rfl
theorem uK (prog:Qt) (w:QF) (i:Int) (t:Tok):(dW prog w).is (.inl i) (.int i t)=true:=Bo i t
theorem vh (prog:Qt) (w:QF) (x:Rr) (t:Tok):(dW prog w).is (.inr x) (.str x t)=true:=CQ x t
end L2
namespace L2
open PySem PySem.Spec PyProof.Rows
inductive V where
 | non | bl (b:Bool) | int (i:Int) | str (x:Rr) | byt (b:Array UInt8) | flt (b:UInt64) | ref (a:Addr) | ty (n:String)
 deriving DecidableEq
def RelV:V->Value->Prop
 | .non,u=>u=QT
 | .bl b,u=>u=Value.bool b
 | .int i,u=>∃ t,u=TJ i t
 | .str x,u=>∃ t,u=Value.str x t
 | .byt b,u=>∃ t,u=Value.bytes b t
 | .flt b,u=>∃ t,u=Value.float b t
 | .ref a,u=>u=QK a
 | .ty n,u=>u=Ub n
abbrev Vals:List V->List Value->Prop:=Paired RelV
theorem Vals.length {xs:List V} {us:List Value} (r:Vals xs us):xs.length=us.length:=W2 r
theorem Vals.get:∀ {xs:List V} {us:List Value} {i:Nat} {x:V},Vals xs us->xs[i]? = some x->∃ u,us[i]? = some u/\RelV x u
 | _,_,_,_,.nil,e=>by simp at e
 | _,_,0,_,.cons r _,e=>by simp at e; subst e; exact⟨_,rfl,r⟩
 | _,_,i+1,x,.cons _ t,e=>by
  obtain⟨u,h1,h2⟩:=Vals.get (i:=i) (x:=x) t (by simpa using e)
  exact⟨u,by simpa using h1,h2⟩
theorem Vals.set {x:V} {u:Value} (r:RelV x u):∀ {xs:List V} {us:List Value} (i:Nat),Vals xs us->Vals (xs.set i x) (us.set i u)
 | _,_,_,.nil=>.nil
 | _,_,0,.cons _ t=>.cons r t
 | _,_,i+1,.cons q t=>.cons q (Vals.set r i t)
theorem Vals.append:∀ {xs ys:List V} {us ws:List Value},Vals xs us->Vals ys ws->Vals (xs++ys) (us++ws)
 | _,_,_,_,.nil,s=>s
 | _,_,_,_,.cons r t,s=>.cons r (Vals.append t s)
theorem Vals.take:∀ {xs:List V} {us:List Value} (n:Nat),Vals xs us->Vals (xs.take n) (us.take n)
 | _,_,0,_=>.nil
 | _,_,_+1,.nil=>.nil
 | _,_,n+1,.cons r t=>.cons r (Vals.take n t)
theorem Vals.drop:∀ {xs:List V} {us:List Value} (n:Nat),Vals xs us->Vals (xs.drop n) (us.drop n)
 | _,_,0,r=>r
 | _,_,_+1,.nil=>.nil
 | _,_,n+1,.cons _ t=>Vals.drop n t
def zr:Option V->Option Value->Prop
 | some v,some u=>RelV v u
 | none,none=>True
 | _,_=>False
def KV {κ:Type}:List (κ × V)->List (κ × Value)->Prop:=Paired fun (p:κ × V) (q:κ × Value)=>p.1=q.1/\RelV p.2 q.2
def kV:Key->V
 | .inl i=>.int i
 | .inr x=>.str x
inductive HO where
 /-- a list -/
 | lst (xs:List V)
 /-- a tuple (never changes) -/
 | tup (xs:List V)
 /-- a dict whose keys are ints and texts; one whose keys are tuples of ints and texts (the empty one is both) -/
 | dK (kvs:List (Key × V)) | dT (kvs:List (List Key × V))
 /-- a set of ints: its members,its size -/
 | set (S:Int->Bool) (n:Nat)
 /-- an instance of the class at C,its dict at dx,its attributes -/
 | ins (C dx:Addr) (fs:List (Rr × V))
 /-- the dict of the instance at x -/
 | own (x:Addr)
 /-- the dict of an exception -/
 | xd (fs:List (Rr × V))
 /-- a bound method,f of x -/
 | met (f x:Addr)
 /-- a range object lo,lo+1,.. below hi -/
 | rng (lo hi:Int)
 /-- a thing that is known to the object (the script; a dict while a loop walks it): read,never written while it is so -/
 | frz (o:Tq) (u:HO)
 /-- a code object's table -/
 | tbl (ps:Array Value)
 /-- any other thing,by what is true of its one object (a def of one's own: SetO a S n:=HO.ext fun h=>..) -/
 | ext (φ:Q7->Prop)
abbrev Hp:=Addr->Option HO
def upd (H:Hp) (a:Addr) (o:HO):Hp:=fun b=>if b=a then some o else H b
theorem aj {H:Hp} {a:Addr} {o:HO}:upd H a o a=some o:=by unfold upd; rw[if_pos rfl]
theorem bx {H:Hp} {a b:Addr} {o:HO} (h:b≠a):upd H a o b=H b:=by unfold upd; rw[if_neg h]
theorem LR {H:Hp} {a b:Addr} {o u:HO} (h:H a=some o) (h':H b=some u) (d:o≠u):a≠b:=by
 intro e; subst e; rw[h] at h'; exact d (QC h')
theorem d9 {H:Hp} {a b:Addr} {o:HO} (h:H a=some o) (h':H b=none):a≠b:=by
 intro e; subst e; rw[h] at h'; cases h'
section
variable (P:Qt) (w:QF)
def dJ (H:Hp) (h:Q7) (a:Addr):HO->Prop
 | .lst xs=>xs.length<=sizeLine/\∃ (its:List Value) (n:Nat),Vals xs its/\h.get? a=some { cls:=.type "list",data:=.seq its.toArray n }
 | .tup xs=>xs.length<=sizeLine/\∃ its:List Value,Vals xs its/\IsTup h a its.toArray
 | .dK kvs=>kvs.length<=sizeLine/\(a == Vc)=false/\∃ vs,KV kvs vs/\h.DictOf (dW P w) a vs
 | .dT kvs=>kvs.length<=sizeLine/\(a == Vc)=false/\∃ xs:List (List Key × Addr × Value),
   Paired (fun (p:List Key × V) (q:List Key × Addr × Value)=>p.1=q.1/\H q.2.1=some (.tup (p.1.map kV))/\RelV p.2 q.2.2) kvs xs ∧
   ∃ o es ep,h.get? a=some o/\o.ExactDict/\o.data = .dict es ep/\es.toList=xs.map (entryOfKey (Xw (dW P w)))/\(xs.map (·.1)).Nodup
 | .set S n=>h.SetOf (UG P w) a S n
 | .ins C dx fs=>H dx=some (.own a)/\fs.length<=1000/\dx≠a/\h.get? a=some (XX C dx) ∧
   ∃ mA,h.Ns1 dx mA/\(∀ f,zr (fs.lookup f) (mA f))/\PySem.Within mA (fs.map (·.1))
 | .own _=>∃ o,h.get? a=some o
 | .xd fs=>∃ mA,h.Ns1 a mA/\∀ f,zr (fs.lookup f) (mA f)
 | .rng lo hi=>∃ t u v,h.get? a=some { cls:=.type "range",data:=.fields #[.int lo t,.int hi u,.int 1 v] }
 | .frz o u=>h.get? a=some o/\dJ H h a u
 | .tbl ps=>h.get? a=some { cls:=.none,data:=.fields ps }
 | .met f x=>h.get? a=some (Xk (.ref f) (.ref x))
 | .ext φ=>φ h/\(∃ o,h.get? a=some o)/\∀ h1 h2:Q7,φ h1->(∀ o,h1.get? a=some o->h2.get? a=some o)->φ h2
def HOk (H:Hp) (h:Q7):Prop:=∀ a o,H a=some o->dJ P w H h a o
end
section
variable {P:Qt} {w:QF} {H H':Hp} {h h':Q7} {a:Addr} {o:HO}
theorem dJ.lt (x:dJ P w H h a o):a < h.objs.size:=by
 cases o with
 | lst xs=>obtain⟨_,_,_,_,e⟩:=x; exact Qa e
 | tup xs=>obtain⟨_,_,_,p⟩:=x; exact p.lt
 | dK kvs=>obtain⟨_,_,_,_,o,_,_,e,_⟩:=x; exact Qa e
 | dT kvs=>obtain⟨_,_,_,_,o,_,_,e,_⟩:=x; exact Qa e
 | set S n=>obtain⟨o,_,_,_,e,_⟩:=x; exact Qa e
 | ins C dx fs=>obtain⟨_,_,_,e,_⟩:=x; exact Qa e
 | own y=>obtain⟨_,e⟩:=x; exact Qa e
 | xd fs=>obtain⟨_,⟨_,_,_,e,_⟩,_⟩:=x; exact Qa e
 | rng lo hi=>obtain⟨_,_,_,e⟩:=x; exact Qa e
 | frz ob u=>obtain⟨e,_⟩:=x; exact Qa e
 | tbl ps=>exact Qa (show h.get? a=some _ from x)
 | met f y=>exact Qa (show h.get? a=some _ from x)
 | ext φ=>obtain⟨_,⟨_,e⟩,_⟩:=x; exact Qa e
theorem Paired.Nk {α β:Type} {F G:α->β->Prop}:∀ {l₁:List α} {l₂:List β},Paired F l₁ l₂->(∀ a b,F a b->G a b)->Paired G l₁ l₂
 | _,_,.nil,_=>.nil
 | _,_,.cons r t,f=>.cons (f _ _ r) (Paired.Nk t f)
theorem dJ.stay (x:dJ P w H h a o) (k:∀ b u,(b=a∨H b=some (.own a))->h.get? b=some u->h'.get? b=some u)
  (ho:∀ b,H b=some (.own a)->H' b=some (.own a)) (ht:∀ b xs,H b=some (.tup xs)->H' b=some (.tup xs)):dJ P w H' h' a o:=by
 induction o with
 | lst xs=>obtain⟨z,its,n,r,e⟩:=x; exact⟨z,its,n,r,k _ _ (.inl rfl) e⟩
 | tup xs=>obtain⟨z,its,r,ob,e,c⟩:=x; exact⟨z,its,r,ob,k _ _ (.inl rfl) e,c⟩
 | dK kvs=>obtain⟨z,y,vs,r,ob,es,ep,e,c⟩:=x; exact⟨z,y,vs,r,ob,es,ep,k _ _ (.inl rfl) e,c⟩
 | dT kvs =>
  obtain⟨z,y,xs,r,ob,es,ep,e,c⟩:=x
  exact⟨z,y,xs,Paired.Nk r fun p q z=>⟨z.1,ht _ _ z.2.1,z.2.2⟩,ob,es,ep,k _ _ (.inl rfl) e,c⟩
 | set S n=>obtain⟨ob,es,ep,t,e,c⟩:=x; exact⟨ob,es,ep,t,k _ _ (.inl rfl) e,c⟩
 | ins C dx fs =>
  obtain⟨d,z,ne,e,mA,⟨od,es,ep,e2,c⟩,r⟩:=x
  exact⟨ho _ d,z,ne,k _ _ (.inl rfl) e,mA,⟨od,es,ep,k _ _ (.inr d) e2,c⟩,r⟩
 | own y=>obtain⟨ob,e⟩:=x; exact⟨ob,k _ _ (.inl rfl) e⟩
 | xd fs=>obtain⟨mA,⟨od,es,ep,e,c⟩,r⟩:=x; exact⟨mA,⟨od,es,ep,k _ _ (.inl rfl) e,c⟩,r⟩
 | rng lo hi=>obtain⟨t,u,v,e⟩:=x; exact⟨t,u,v,k _ _ (.inl rfl) e⟩
 | frz ob u ih=>obtain⟨e,q⟩:=x; exact⟨k _ _ (.inl rfl) e,ih q⟩
 | tbl ps =>
  have e:h.get? a=some { cls:=.none,data:=.fields ps }:=x
  show h'.get? a=some { cls:=.none,data:=.fields ps }
  exact k a _ (.inl rfl) e
 | met f y =>
  have e:h.get? a=some (Xk (.ref f) (.ref y)):=x
  show h'.get? a=some (Xk (.ref f) (.ref y))
  exact k a _ (.inl rfl) e
 | ext φ=>obtain⟨p,⟨o,e⟩,st⟩:=x; exact⟨st _ _ p fun o q=>k _ _ (.inl rfl) q,⟨o,k _ _ (.inl rfl) e⟩,st⟩
theorem HOk.lt (x:HOk P w H h) (e:H a=some o):a < h.objs.size:=(x a o e).lt
theorem HOk.fresh (x:HOk P w H h) (e:h.objs.size<=a):H a=none:=by
 cases q:H a with
 | none=>rfl
 | some u=>exact absurd (Ql (x.lt q) e) (SX _)
theorem HOk.kept (x:HOk P w H h) (k:∀ b u,h.get? b=some u->h'.get? b=some u):HOk P w H h':=fun a o e =>
 (x a o e).stay (fun b u _ q=>k b u q) (fun _ q=>q) fun _ _ q=>q
theorem HOk.laid (x:HOk P w H h) (k:∀ b u,h.get? b=some u->h'.get? b=some u) (hp:h.objs.size<=a) (new:dJ P w (upd H a o) h' a o):HOk P w (upd H a o) h':=fun b u e=>by
 have hn:=x.fresh hp
 by_cases hb:b=a
 ·subst hb; rw[aj] at e; cases e; exact new
 ·rw[bx hb] at e
  exact (x b u e).stay (fun c v _ q=>k c v q) (fun c q=>by rw[bx (d9 q hn)]; exact q) fun c xs q=>by rw[bx (d9 q hn)]; exact q
end
def Rd (H:Hp) (a:Addr) (u:HO):Prop:=H a=some u∨∃ o,H a=some (.frz o u)
theorem Rd.ok {P:Qt} {w:QF} {H:Hp} {h:Q7} {a:Addr} {u:HO} (r:Rd H a u) (x:HOk P w H h):dJ P w H h a u:=by
 rcases r with r | ⟨o,r⟩
 ·exact x a u r
 ·obtain⟨_,q⟩:=x a _ r
  exact q
def Mut:Option HO->Prop
 | some (.lst _)=>True
 | some (.dK _)=>True
 | some (.dT _)=>True
 | some (.set _ _)=>True
 | some (.ins _ _ _)=>True
 | some (.ext _)=>True
 | _=>False
section
variable {P:Qt} {w:QF} {H:Hp} {h h':Q7} {x e:Addr} {o':HO}
theorem HOk.write (ok:HOk P w H h) (mu:Mut (H x)) (he:e=x∨H e=some (.own x)) (k:∀ b u,b≠e->h.get? b=some u->h'.get? b=some u) (heo:∃ u,h'.get? e=some u)
  (new:dJ P w (upd H x o') h' x o'):HOk P w (upd H x o') h':=fun b u q=>by
 have nown:∀ c y,H c=some (.own y)->c≠x:=fun c y r z=>by subst z; rw[r] at mu; exact mu
 have ntup:∀ c xs,H c=some (.tup xs)->c≠x:=fun c xs r z=>by subst z; rw[r] at mu; exact mu
 by_cases hb:b=x
 ·subst hb; rw[aj] at q; cases q; exact new
 ·rw[bx hb] at q
  by_cases hbe:b=e
  ·have q':H b=some (.own x):=by
    rcases he with z | z
    ·exact absurd (hbe.trans z) hb
    ·rw[hbe]; exact z
   rw[q] at q'; cases q'
   obtain⟨v,hv⟩:=heo
   exact⟨v,by rw[hbe]; exact hv⟩
  ·refine (ok b u q).stay (fun c v hc r=>k c v ?_ r) (fun c r=>by rw[bx (nown c b r)]; exact r) fun c xs r=>by rw[bx (ntup c xs r)]; exact r
   rcases hc with rfl | hc
   ·exact hbe
   ·rintro rfl
    rcases he with z | z
    ·exact nown c b hc z
    ·rw[hc] at z; cases z; exact hb rfl
end
structure Un (fs ex:List Addr) (H H':Hp) (h h':Q7):Prop where
 keep:∀ b o,h.get? b=some o->H b=none->b ∉ fs->b ∉ ex->h'.get? b=some o
 slot:∀ b o,h.get? b=some o->H b=none->b∈fs->b ∉ ex->∃ sl,h'.get? b=some { o with slots:=sl }
 free:∀ b o,h.get? b=some o->H b=none->b ∉ ex->H' b=none
 there:∀ b o,h.get? b=some o->b ∉ ex->∃ o',h'.get? b=some o'
 tups:∀ b xs,H b=some (.tup xs)->H' b=some (.tup xs)
 frzs:∀ b o u,H b=some (.frz o u)->H' b=some (.frz o u)
 tbls:∀ b ps,H b=some (.tbl ps)->∃ more,H' b=some (.tbl (ps++more))
section
variable {fs fs' ex ex':List Addr} {H H1 H2:Hp} {h h1 h2 h':Q7} {a x e:Addr} {o:HO}
theorem Un.any (u:Un fs ex H H1 h h1) {b:Addr} {ob:Tq} (q:h.get? b=some ob) (n:H b=none) (hx:b ∉ ex):∃ sl,h1.get? b=some { ob with slots:=sl }:=by
 by_cases hb:b∈fs
 ·exact u.slot b ob q n hb hx
 ·exact⟨ob.slots,u.keep b ob q n hb hx⟩
theorem Un.trans (a:Un fs ex H H1 h h1) (b:Un fs ex H1 H2 h1 h2):Un fs ex H H2 h h2 where
 keep:=fun c ob q n hc hx=>b.keep c ob (a.keep c ob q n hc hx) (a.free c ob q n hx) hc hx
 slot:=fun c ob q n hc hx=>by
  obtain⟨sl,e1⟩:=a.slot c ob q n hc hx
  obtain⟨sl',e2⟩:=b.slot c _ e1 (a.free c ob q n hx) hc hx
  exact⟨sl',e2⟩
 free:=fun c ob q n hx=>by
  obtain⟨o',e1⟩:=a.there c ob q hx
  exact b.free c o' e1 (a.free c ob q n hx) hx
 there:=fun c ob q hx=>by
  obtain⟨o',e1⟩:=a.there c ob q hx
  exact b.there c o' e1 hx
 tups:=fun c xs q=>b.tups c xs (a.tups c xs q)
 frzs:=fun c ob xs q=>b.frzs c ob xs (a.frzs c ob xs q)
 tbls:=fun c ps q=>by
  obtain⟨m1,e1⟩:=a.tbls c ps q
  obtain⟨m2,e2⟩:=b.tbls c _ e1
  exact⟨m1++m2,by rw[e2,Array.append_assoc]⟩
theorem Un.kept (k:∀ b u,h.get? b=some u->h'.get? b=some u):Un fs ex H H h h' :=
 ⟨fun b ob q _ _ _=>k b ob q,fun b ob q _ _ _=>⟨ob.slots,k b ob q⟩,fun _ _ _ n _=>n,fun b ob q _=>⟨ob,k b ob q⟩,fun _ _ q=>q,fun _ _ _ q=>q,fun _ ps q=>⟨#[],by rw[q]; simp⟩⟩
theorem Un.refl:Un fs ex H H h h:=Un.kept fun _ _ q=>q
theorem Un.laid (k:∀ b u,h.get? b=some u->h'.get? b=some u) (hp:h.objs.size<=a) (hn:H a=none):Un fs ex H (upd H a o) h h' where
 keep:=fun b u q _ _ _=>k b u q
 slot:=fun b u q _ _ _=>⟨u.slots,k b u q⟩
 free:=fun b u q n _=>by rw[bx (Qq (Ql (Qa q) hp))]; exact n
 there:=fun b u q _=>⟨u,k b u q⟩
 tups:=fun b xs q=>by rw[bx (d9 q hn)]; exact q
 frzs:=fun b u xs q=>by rw[bx (d9 q hn)]; exact q
 tbls:=fun b ps q=>⟨#[],by rw[bx (d9 q hn),q]; simp⟩
theorem Un.write (mu:Mut (H x)) (he:e=x∨H e=some (.own x)) (k:∀ b u,b≠e->h.get? b=some u->h'.get? b=some u) (heo:∃ u,h'.get? e=some u):Un fs ex H (upd H x o) h h':=by
 have hx:∀ b,H b=none->b≠x:=fun b n z=>by subst z; rw[n] at mu; exact mu
 have hb:∀ b,H b=none->b≠e:=fun b n z=>by
  subst z
  rcases he with r | r
  ·exact hx b n r
  ·rw[n] at r; cases r
 have hm:∀ b u,H b=some u->¬ Mut (some u)->b≠x:=fun b u q nm z=>by subst z; rw[q] at mu; exact nm mu
 refine⟨fun b u q n _ _=>k b u (hb b n) q,fun b u q n _ _=>⟨u.slots,k b u (hb b n) q⟩,fun b u q n _=>by rw[bx (hx b n)]; exact n,fun b u q _=>?_,
  fun b xs q=>by rw[bx (hm b _ q fun z=>z)]; exact q,fun b u xs q=>by rw[bx (hm b _ q fun z=>z)]; exact q,fun b ps q=>⟨#[],by rw[bx (hm b _ q fun z=>z),q]; simp⟩⟩
 by_cases hbe:b=e
 ·subst hbe; exact heo
 ·exact⟨u,k b u hbe q⟩
end
def trk (h:Q7) (H:Hp):List Addr:=(PL h.objs.size).filter fun a=>(H a).isSome
def Em (h:Q7) (H:Hp):Q7:=PySem.W.hideAll h (trk h H)
theorem zm (h:Q7) (H:Hp):(Em h H).objs.size=h.objs.size:=PySem.W.hideAll_size _ _
theorem Ec {h:Q7} {H:Hp} {b:Addr} {o:Tq} (e:h.get? b=some o) (n:H b=none):(Em h H).get? b=some o :=
 PySem.W.hideAll_get _ e fun hm=>by
  have q:(H b).isSome=true:=(List.mem_filter.mp hm).2
  rw[n] at q; simp at q
theorem Jb {h:Q7} {H:Hp} {b:Addr} {o:Tq} (e:(Em h H).get? b=some o):h.get? b=some o/\H b=none:=by
 have e':h.get? b=some o:=PySem.W.of_hideAll (trk h H) e
 refine⟨e',?_⟩
 cases q:H b with
 | none=>rfl
 | some x =>
  have hm:b∈trk h H:=List.mem_filter.mpr ⟨List.mem_range.mpr (Qa e'),by simp [q]⟩
  have z:(Em h H).get? b=none:=PySem.W.hideAll_none (trk h H) hm
  rw[z] at e; cases e
def Ia (g h:Q7) (L:Addr):List (Addr × Tq):=(PL h.objs.size).filterMap fun a=>if a=L∨(g.get? a).isSome=true then none else (h.get? a).map fun o=>(a,o)
def rest (g h:Q7) (L d:Addr):List (Addr × Tq):=(Ia g h L).filter fun p=>decide (p.1≠d)
end L2
namespace L2
open PySem PySem.Spec PyProof.Rows
structure Mod (K:Qe) (mg:Rr->Option Value) (base:Q7):Prop where
 kin:K.In base
 glob:base.Ns Qy mg
 blt:∃ mb,base.Ns builtinsNs mb/\∀ x:Rr,x≠"__name__"->mb x=QZ x
 nolimit:base.NoLimit
structure Cx where
 prog:Qt
 w:QF
 K:Qe
 mg:Rr->Option Value
 base:Q7
 A:QG
 N:List Rr
 s₀:Pu
 H₀:Hp
 env:Env
 outer:List Env
 stack:List Env
 ex:List Addr
 fn:Rr->Bool
 calm:Bool
 pn:List (Addr × Tq)
 xe:Value->Pu->Prop
def frs (l:List Env):List Addr:=l.filterMap (·.frame)
abbrev Cx.fs (X:Cx):List Addr:=frs X.outer
def Vis (sc:Ve) (x:Rr):Prop:=sc.names.lookup x=some .local∨sc.names.lookup x=some .cell∨sc.names.lookup x=some .free
def Loc (sc:Ve) (x:Rr):Prop:=sc.names.lookup x=some .local∨sc.names.lookup x=some .cell
def Look (env:Env) (h:Q7) (m:Rr->Option Value) (x:Rr) (u:Value):Prop :=
 (env.kindOf x=some .local/\m x=some u)∨((env.kindOf x=some .cell∨env.kindOf x=some .free)/\∃ c,env.cells.lookup x=some c/\h.IsCell c (some u))
structure Cx.Ok (X:Cx):Prop where
 mod:Mod X.K X.mg X.base
 kind:X.env.scope.kind = .function
 glob:X.env.globals=Qy
 blt:X.env.builtins=builtinsNs
 above:X.s₀.heap.objs.size<=X.env.locals
 inj:∀ x y c,X.env.cells.lookup x=some c->X.env.cells.lookup y=some c->x=y
 has:∀ x,(X.env.kindOf x=some .cell∨X.env.kindOf x=some .free)->∃ c,X.env.cells.lookup x=some c
 cab:∀ x c,X.fn x=true->X.env.cells.lookup x=some c->X.s₀.heap.objs.size<=c
 hd:X.calm=true->X.A.handled=none
 frames:X.A.frames=some X.stack
 stk:X.stack=X.outer∨(X.stack=X.env::X.outer/\X.env.frame=some X.env.locals)
 exf:∀ b∈X.ex,b≠X.env.locals/\∀ x c,X.env.cells.lookup x=some c->c≠b
 bs:∀ b o,X.base.get? b=some o->X.s₀.heap.get? b=some o/\X.H₀ b=none
 bsz:X.base.objs.size<=X.s₀.heap.objs.size
 noex:∀ b o,X.base.get? b=some o->b ∉ X.ex
 exfs:∀ b∈X.ex,b ∉ X.fs
 Bf:X.s₀.heap.FunFrames X.base X.outer
 frf:∀ b∈X.fs,X.H₀ b=none
structure Inv (X:Cx) (pins:List (Addr × Tq)) (σ:List (Option V)) (H:Hp) (s:Pu):Prop where
 ok:X.Ok
 os:s.os=X.s₀.os
 bare:Ww s.gens
 base:Un X.fs X.ex X.H₀ H X.s₀.heap s.heap
 loc:∃ m,s.heap.Ns X.env.locals m/\∀ (i:Nat) (x:Rr) (v:V),X.N[i]? = some x->σ[i]? = some (some v)->Vis X.env.scope x->∃ u,RelV v u/\Look X.env s.heap m x u
 cell:∀ x c,X.env.cells.lookup x=some c->∃ v,s.heap.IsCell c v
 free:H X.env.locals=none
 freeC:∀ x c,X.env.cells.lookup x=some c->H c=none
 pin:∀ p∈X.pn++pins,s.heap.get? p.1=some p.2/\H p.1=none/\p.1≠X.env.locals/\p.1 ∉ X.fs/\∀ v,p.2.data≠.cell v
 hok:HOk X.prog X.w H s.heap
 len:σ.length=X.N.length
section
variable {X:Cx} {pins:List (Addr × Tq)} {σ:List (Option V)} {H H':Hp} {s:Pu} {h':Q7}
theorem Cx.Ok.O8 (ok:X.Ok) {b:Addr} {o:Tq} (e:X.base.get? b=some o):b ∉ X.fs:=fun hb=>by
 have:=(ok.Bf.mem hb).1
 rw[e] at this; cases this
theorem Inv.bs (I:Inv X pins σ H s):∀ b o,X.base.get? b=some o->s.heap.get? b=some o/\H b=none:=fun b o e =>
 ⟨I.base.keep b o (I.ok.bs b o e).1 (I.ok.bs b o e).2 (I.ok.O8 e) (I.ok.noex b o e),I.base.free b o (I.ok.bs b o e).1 (I.ok.bs b o e).2 (I.ok.noex b o e)⟩
theorem Inv.bk (I:Inv X pins σ H s):∀ b o,X.base.get? b=some o->s.heap.get? b=some o:=fun b o e=>(I.bs b o e).1
theorem Inv.mod (I:Inv X pins σ H s):Mod X.K X.mg X.base:=I.ok.mod
theorem Inv.kIn (I:Inv X pins σ H s):X.K.In s.heap:=I.ok.mod.kin.keeps I.bk
theorem Inv.lt (I:Inv X pins σ H s):X.env.locals < s.heap.objs.size:=let ⟨_,hn,_⟩:=I.loc; hn.lt
theorem Inv.sz (I:Inv X pins σ H s):X.s₀.heap.objs.size<=s.heap.objs.size:=Q0 I.ok.above (UL I.lt)
theorem Inv.Pj (I:Inv X pins σ H s) {a:Addr} (h:s.heap.objs.size<=a):a ∉ X.fs:=fun hb=>by
 obtain⟨_,o,ho,_⟩:=I.ok.Bf.mem hb
 exact absurd (Ql (Qa ho) (Q0 I.sz h)) (SX _)
theorem Inv.cne (I:Inv X pins σ H s):∀ x c,X.env.cells.lookup x=some c->c≠X.env.locals:=fun x c e z=>by
 obtain⟨v,o,ho,hd⟩:=I.cell x c e
 obtain⟨m,⟨o',es,ep,ho',hd',_⟩,_⟩:=I.loc
 rw[z,ho'] at ho; cases ho; rw[hd'] at hd; cases hd
theorem Inv.Bf (I:Inv X pins σ H s):s.heap.FunFrames X.base X.outer:=by
 have all:∀ (l:List Env),(∀ b∈frs l,b∈X.fs)->X.s₀.heap.FunFrames X.base l->s.heap.FunFrames X.base l:=by
  intro l
  induction l with
  | nil=>intro _ _; trivial
  | cons env r ih =>
   intro hs hl
   obtain⟨hk,⟨L,o,hf,hn,ho,hd⟩,hr⟩:=hl
   have hL:L∈X.fs:=hs L (by unfold frs; rw[VL,hf]; exact PN)
   obtain⟨sl,e⟩:=I.base.slot L o ho (I.ok.frf L hL) hL fun z=>I.ok.exfs L z hL
   exact⟨hk,⟨L,_,hf,hn,e,hd⟩,ih (fun b hb=>hs b (by unfold frs; rw[VL,hf]; exact Qc _ hb)) hr⟩
 exact all X.outer (fun _ hb=>hb) I.ok.Bf
theorem Inv.stack (I:Inv X pins σ H s):s.heap.FunFrames X.base X.stack:=by
 rcases I.ok.stk with e | ⟨e,hf⟩
 ·rw[e]; exact I.Bf
 ·rw[e]
  obtain⟨m,hn,_⟩:=I.loc
  refine .cons (by rw[I.ok.kind]; decide) hf hn ?_ I.Bf
  exact Heap.get?_none_of_le (Q0 I.ok.bsz I.ok.above)
theorem Inv.Bv (I:Inv X pins σ H s):∀ b∈frs X.stack,b∈X.env.locals::X.fs:=fun b hb=>by
 rcases I.ok.stk with e | ⟨e,hf⟩
 ·rw[e] at hb; exact Qc _ hb
 ·rw[e] at hb
  unfold frs at hb
  rw[VL,hf] at hb
  exact hb
theorem Inv.Cy (I:Inv X pins σ H s):∀ b∈frs X.stack,H b=none:=fun b hb=>by
 rcases List.mem_cons.mp (I.Bv b hb) with e | hb
 ·rw[e]; exact I.free
 ·obtain⟨_,o,ho,_⟩:=I.ok.Bf.mem hb
  exact I.base.free b o ho (I.ok.frf b hb) fun z=>I.ok.exfs b z hb
theorem Inv.step {g':Array GenState} {t':Nat} {d':Drawn} {ch:List Addr} (I:Inv X pins σ H s)
  (hch:∀ b∈ch,(b∈X.ex∨X.s₀.heap.objs.size<=b)/\b≠X.env.locals/\(∀ x c,X.env.cells.lookup x=some c->c≠b)/\∀ p∈X.pn++pins,p.1≠b)
  (keep:∀ b o,b≠X.env.locals->b ∉ X.fs->b ∉ ch->s.heap.get? b=some o->H b=none->h'.get? b=some o)
  (slot:∀ b o,b≠X.env.locals->b∈X.fs->b ∉ ch->s.heap.get? b=some o->H b=none->∃ sl,h'.get? b=some { o with slots:=sl }) (free:∀ b o,b ∉ ch->s.heap.get? b=some o->H b=none->H' b=none)
  (there:∀ b o,b ∉ ch->s.heap.get? b=some o->∃ o',h'.get? b=some o')
  (tups:∀ b xs,H b=some (.tup xs)->H' b=some (.tup xs)) (frzs:∀ b o u,H b=some (.frz o u)->H' b=some (.frz o u)) (tbls:∀ b ps,H b=some (.tbl ps)->∃ more,H' b=some (.tbl (ps++more)))
  (ns:∀ m,s.heap.Ns X.env.locals m->h'.Ns X.env.locals m) (hok:HOk X.prog X.w H' h') (hg:Ww g') :
  Inv X pins σ H' { s with heap:=h',gens:=g',drawn:=d',toks:=t' }:=by
 have neL:∀ b o,X.s₀.heap.get? b=some o->b≠X.env.locals:=fun b o e=>Qq (Ql (Qa e) I.ok.above)
 have neC:∀ b o,X.s₀.heap.get? b=some o->b ∉ X.ex->b ∉ ch:=fun b o e hx hb=>by
  rcases (hch b hb).1 with z | z
  ·exact hx z
  ·exact absurd (Ql (Qa e) z) (SX _)
 have cellK:∀ x c,X.env.cells.lookup x=some c->∀ v,s.heap.IsCell c v->h'.IsCell c v:=fun x c e v ⟨o,ho,hd⟩=>by
  have nch:c ∉ ch:=fun z=>(hch c z).2.2.1 x c e rfl
  by_cases hc:c∈X.fs
  ·obtain⟨sl,q⟩:=slot c o (I.cne x c e) hc nch ho (I.freeC x c e)
   exact⟨_,q,hd⟩
  ·exact⟨o,keep c o (I.cne x c e) hc nch ho (I.freeC x c e),hd⟩
 refine⟨I.ok,I.os,hg,⟨fun b o e n hb hx=>?_,fun b o e n hb hx=>?_,fun b o e n hx=>?_,fun b o e hx=>?_,fun b xs e=>tups b xs (I.base.tups b xs e),fun b o xs e=>frzs b o xs (I.base.frzs b o xs e),fun b ps e=>?_⟩,?_,fun x c e=>?_,?_,fun x c e=>?_,fun p hp=>?_,hok,I.len⟩
 ·exact keep b o (neL b o e) hb (neC b o e hx) (I.base.keep b o e n hb hx) (I.base.free b o e n hx)
 ·obtain⟨sl,e1⟩:=I.base.slot b o e n hb hx
  obtain⟨sl',e2⟩:=slot b _ (neL b o e) hb (neC b o e hx) e1 (I.base.free b o e n hx)
  exact⟨sl',e2⟩
 ·obtain⟨o',e1⟩:=I.base.there b o e hx
  exact free b o' (neC b o e hx) e1 (I.base.free b o e n hx)
 ·obtain⟨o',e1⟩:=I.base.there b o e hx
  exact there b o' (neC b o e hx) e1
 ·obtain⟨m1,e1⟩:=I.base.tbls b ps e
  obtain⟨m2,e2⟩:=tbls b _ e1
  exact⟨m1++m2,by rw[e2,Array.append_assoc]⟩
 ·obtain⟨m,hn,hl⟩:=I.loc
  refine⟨m,ns m hn,fun i x v e1 e2 e3=>?_⟩
  obtain⟨u,r,l⟩:=hl i x v e1 e2 e3
  refine⟨u,r,?_⟩
  rcases l with l | ⟨k,c,e,z⟩
  ·exact .inl l
  ·exact .inr ⟨k,c,e,cellK x c e _ z⟩
 ·obtain⟨v,z⟩:=I.cell x c e
  exact⟨v,cellK x c e v z⟩
 ·obtain⟨m,⟨o,_,_,ho,_⟩,_⟩:=I.loc
  exact free _ o (fun z=>(hch _ z).2.1 rfl) ho I.free
 ·obtain⟨v,o,ho,hd⟩:=I.cell x c e
  exact free c o (fun z=>(hch c z).2.2.1 x c e rfl) ho (I.freeC x c e)
 ·obtain⟨e,n,ne,nf,d⟩:=I.pin p hp
  have nch:p.1 ∉ ch:=fun z=>(hch p.1 z).2.2.2 p hp rfl
  exact⟨keep p.1 p.2 ne nf nch e n,free p.1 p.2 nch e n,ne,nf,d⟩
theorem Inv.un {t':Nat} (I:Inv X pins σ H s) (u:Un X.fs [] H H' s.heap h') (hok:HOk X.prog X.w H' h'):Inv X pins σ H' { s with heap:=h',toks:=t' }:=by
 obtain⟨m,⟨o,es,ep,ho,r⟩,_⟩:=id I.loc
 obtain⟨sl,hL⟩:=u.any ho I.free (by simp)
 exact I.step (g':=s.gens) (d':=s.drawn) (ch:=[]) (fun _ z=>nomatch z) (fun b o _ hb _ e n=>u.keep b o e n hb (by simp)) (fun b o _ hb _ e n=>u.slot b o e n hb (by simp)) (fun b o _ e n=>u.free b o e n (by simp)) (fun b o _ e=>u.there b o e (by simp)) u.tups u.frzs u.tbls (fun m' hm=>by
  obtain⟨o',es',ep',ho',r'⟩:=hm
  rw[ho] at ho'; cases ho'
  exact⟨_,es',ep',hL,r'⟩) hok I.bare
theorem Inv.call {g':Array GenState} {t':Nat} {d':Drawn} {ch:List Addr} (I:Inv X pins σ H s) (u:Un (frs X.stack) ch H H' s.heap h') (hok:HOk X.prog X.w H' h') (hg:Ww g')
  (hch:∀ b∈ch,(b∈X.ex∨X.s₀.heap.objs.size<=b)/\b≠X.env.locals/\(∀ x c,X.env.cells.lookup x=some c->c≠b)/\∀ p∈X.pn++pins,p.1≠b) :
  Inv X pins σ H' { s with heap:=h',gens:=g',drawn:=d',toks:=t' }:=by
 obtain⟨m,⟨o,es,ep,ho,r⟩,_⟩:=id I.loc
 obtain⟨sl,hL⟩:=u.any ho I.free fun z=>(hch _ z).2.1 rfl
 exact I.step (ch:=ch) hch (fun b o hL hb hc e n=>u.keep b o e n (fun z=>(List.mem_cons.mp (I.Bv b z)).elim hL hb) hc) (fun b o _ _ hc e n=>u.any e n hc) (fun b o hc e n=>u.free b o e n hc) (fun b o hc e=>u.there b o e hc) u.tups u.frzs u.tbls (fun m' hm=>by
  obtain⟨o',es',ep',ho',r'⟩:=hm
  rw[ho] at ho'; cases ho'
  exact⟨_,es',ep',hL,r'⟩) hok hg
theorem Inv.turned {t':Nat} {it:Addr} (I:Inv X pins σ H s) (k:∀ b o,b≠it->s.heap.get? b=some o->h'.get? b=some o) (hn:H it=none) (hL:it≠X.env.locals)
  (h1:it∈X.ex∨X.s₀.heap.objs.size<=it) (h2:∀ x c,X.env.cells.lookup x=some c->c≠it) (h3:∀ p∈X.pn++pins,p.1≠it):Inv X pins σ H { s with heap:=h',toks:=t' }:=by
 have nit:∀ b u,H b=some u->b≠it:=fun b u e z=>by rw[z,hn] at e; cases e
 refine I.step (g':=s.gens) (d':=s.drawn) (ch:=[it]) (fun b hb=>?_) (fun b o _ _ hc e _=>k b o (fun z=>hc (by simp [z])) e) (fun b o _ _ hc e _=>⟨o.slots,k b o (fun z=>hc (by simp [z])) e⟩) (fun _ _ _ _ n=>n)
  (fun b o hc e=>⟨o,k b o (fun z=>hc (by simp [z])) e⟩) (fun _ _ e=>e) (fun _ _ _ e=>e) (fun b ps e=>⟨#[],by rw[e]; simp⟩) (fun m hm=>?_) (fun b u e=>?_) I.bare
 ·have e:b=it:=by simpa using hb
  subst e
  exact⟨h1,hL,h2,h3⟩
 ·obtain⟨o,es,ep,ho,r⟩:=hm
  exact⟨o,es,ep,k _ o (Tu hL) ho,r⟩
 ·refine (I.hok b u e).stay (fun c v hc q=>k c v ?_ q) (fun _ q=>q) fun _ _ q=>q
  rcases hc with z | z
  ·rw[z]; exact nit b u e
  ·exact nit c _ z
theorem Inv.tok (I:Inv X pins σ H s) (t:Nat):Inv X pins σ H { s with toks:=t }:=I.un (h':=s.heap) (t':=t) Un.refl I.hok
theorem Inv.kept {t':Nat} (I:Inv X pins σ H s) (k:∀ b u,s.heap.get? b=some u->h'.get? b=some u):Inv X pins σ H { s with heap:=h',toks:=t' }:=I.un (Un.kept k) (I.hok.kept k)
theorem Inv.laid {a:Addr} {o:HO} {t':Nat} (I:Inv X pins σ H s) (k:∀ b u,s.heap.get? b=some u->h'.get? b=some u) (hp:s.heap.objs.size<=a) (new:dJ X.prog X.w (upd H a o) h' a o) :
  Inv X pins σ (upd H a o) { s with heap:=h',toks:=t' }:=I.un (Un.laid k hp (I.hok.fresh hp)) (I.hok.laid k hp new)
theorem Inv.write {x e:Addr} {o:HO} {t':Nat} (I:Inv X pins σ H s) (mu:Mut (H x)) (he:e=x∨H e=some (.own x)) (k:∀ b u,b≠e->s.heap.get? b=some u->h'.get? b=some u) (heo:∃ u,h'.get? e=some u)
  (new:dJ X.prog X.w (upd H x o) h' x o):Inv X pins σ (upd H x o) { s with heap:=h',toks:=t' }:=I.un (Un.write mu he k heo) (I.hok.write mu he k heo new)
theorem Inv.Bx {pins':List (Addr × Tq)} (I:Inv X pins σ H s) (h:∀ p∈pins',s.heap.get? p.1=some p.2/\H p.1=none/\p.1≠X.env.locals/\p.1 ∉ X.fs/\∀ v,p.2.data≠.cell v):Inv X pins' σ H s :=
 ⟨I.ok,I.os,I.bare,I.base,I.loc,I.cell,I.free,I.freeC,fun p hp=>(List.mem_append.mp hp).elim (fun z=>I.pin p (WT _ z)) (h p),I.hok,I.len⟩
theorem v9 {N:List Rr} (hN:N.Nodup) {i j:Nat} {x:Rr} (a:N[i]? = some x) (b:N[j]? = some x):i=j:=by
 obtain⟨h1,e1⟩:=List.getElem?_eq_some_iff.mp a
 obtain⟨h2,e2⟩:=List.getElem?_eq_some_iff.mp b
 exact (Wo hN).mp (e1.trans e2.symm)
theorem qZ {M:Model} {A:QG} {E:Value->Pu->Prop} {i:Nat} {x:Rr} {v:V} {u:Value} {Q:Unit->Pu->Prop} (I:Inv X pins σ H s) (hN:X.N.Nodup) (hi:X.N[i]? = some x) (hx:Loc X.env.scope x) (r:RelV v u)
  (h:∀ s',Inv X pins (σ.set i (some v)) H s'->(∃ a,R9 a s.heap s'.heap/\(a=X.env.locals∨X.env.cells.lookup x=some a))->Q () s') (hf:X.fn x=true∨X.env.scope.names.lookup x=some .local:=by first | exact .inl rfl | exact .inr rfl | assumption):PX M A (storeName X.env x u) Q E s:=by
 obtain⟨m,hn,hl⟩:=id I.loc
 have hcls:(X.env.scope.kind == .class || (X.env.scope.kind == .module && X.env.locals != X.env.globals))=false:=by rw[I.ok.kind]; rfl
 have hiσ:i < σ.length:=by rw[I.len]; exact (List.getElem?_eq_some_iff.mp hi).1
 have cne:=I.cne
 have tracked:∀ {a:Addr} {h':Q7},(∃ o,s.heap.get? a=some o/\H a=none)->R9 a s.heap h'->HOk X.prog X.w H h':=fun {a h'} ha hs b ob e=>by
  obtain⟨_,_,hfree⟩:=ha
  refine (I.hok b ob e).stay (fun c w' hc q=>(hs.2 c ?_).trans q) (fun _ q=>q) fun _ _ q=>q
  rintro rfl
  rcases hc with rfl | hc
  ·rw[hfree] at e; cases e
  ·rw[hfree] at hc; cases hc
 rcases hx with hk | hk
 ·refine wpAny_storeName_local hk hn (fun h' hn' hs=>?_) hcls
  obtain⟨oL,_,_,hoL,_⟩:=id hn
  refine h _ ⟨I.ok,I.os,I.bare,⟨fun b o e n hb hx=>?_,fun b o e n hb hx=>?_,I.base.free,fun b o e hx=>?_,I.base.tups,I.base.frzs,I.base.tbls⟩,⟨_,hn',fun j y v' e1 e2 e3=>?_⟩,fun y c e=>?_,I.free,I.freeC,fun p hp=>?_,tracked ⟨oL,hoL,I.free⟩ hs,by simpa using I.len⟩ ⟨_,hs,.inl rfl⟩
  ·exact (hs.2 b (Qq (Ql (Qa e) I.ok.above))).trans (I.base.keep b o e n hb hx)
  ·obtain⟨sl,e1⟩:=I.base.slot b o e n hb hx
   exact⟨sl,(hs.2 b (Qq (Ql (Qa e) I.ok.above))).trans e1⟩
  ·obtain⟨o',e1⟩:=I.base.there b o e hx
   exact⟨o',(hs.2 b (Qq (Ql (Qa e) I.ok.above))).trans e1⟩
  ·by_cases hj:j=i
   ·subst hj
    rw[hi] at e1; cases e1
    rw[List.getElem?_set_self hiσ] at e2
    cases e2
    exact⟨u,r,.inl ⟨hk,by simp⟩⟩
   ·rw[List.getElem?_set_ne (Tu hj)] at e2
    obtain⟨u',r',q⟩:=hl j y v' e1 e2 e3
    refine⟨u',r',?_⟩
    rcases q with⟨k,e⟩ | ⟨k,c,e,z⟩
    ·refine .inl ⟨k,?_⟩
     have:y≠x:=fun e=>hj (v9 hN e1 (e▸hi))
     simp [this,e]
    ·exact .inr ⟨k,c,e,z.sameBut hs (cne y c e)⟩
  ·obtain⟨w',z⟩:=I.cell y c e
   exact⟨w',z.sameBut hs (cne y c e)⟩
  ·obtain⟨e,n,ne,nf,d⟩:=I.pin p hp
   exact⟨(hs.2 p.1 ne).trans e,n,ne,nf,d⟩
 ·have hfn:X.fn x=true:=by
   rcases hf with z | z
   ·exact z
   ·rw[z] at hk; cases hk
  obtain⟨c,hc⟩:=I.ok.has x (.inl hk)
  obtain⟨w',z⟩:=I.cell x c hc
  refine wpAny_storeName_cell I.ok.kind hk hc z (fun h' hc' hs=>?_)
  obtain⟨oc,hoc,hocd⟩:=id z
  refine h { s with heap:=h' } ⟨I.ok,I.os,I.bare,⟨fun b o e n hb hx=>?_,fun b o e n hb hx=>?_,I.base.free,fun b o e hx=>?_,I.base.tups,I.base.frzs,I.base.tbls⟩,⟨m,hn.sameBut hs (Tu (cne x c hc)),fun j y v' e1 e2 e3=>?_⟩,fun y c' e=>?_,I.free,I.freeC,fun p hp=>?_,tracked ⟨oc,hoc,I.freeC x c hc⟩ hs,by simpa using I.len⟩ ⟨c,hs,.inr hc⟩
  ·exact (hs.2 b (Qq (Ql (Qa e) (I.ok.cab x c hfn hc)))).trans (I.base.keep b o e n hb hx)
  ·obtain⟨sl,e1⟩:=I.base.slot b o e n hb hx
   exact⟨sl,(hs.2 b (Qq (Ql (Qa e) (I.ok.cab x c hfn hc)))).trans e1⟩
  ·obtain⟨o',e1⟩:=I.base.there b o e hx
   exact⟨o',(hs.2 b (Qq (Ql (Qa e) (I.ok.cab x c hfn hc)))).trans e1⟩
  ·by_cases hj:j=i
   ·subst hj
    rw[hi] at e1; cases e1
    rw[List.getElem?_set_self hiσ] at e2
    cases e2
    exact⟨u,r,.inr ⟨.inl hk,c,hc,hc'⟩⟩
   ·rw[List.getElem?_set_ne (Tu hj)] at e2
    obtain⟨u',r',q⟩:=hl j y v' e1 e2 e3
    refine⟨u',r',?_⟩
    rcases q with q | ⟨k,c',e,z'⟩
    ·exact .inl q
    ·refine .inr ⟨k,c',e,z'.sameBut hs ?_⟩
     rintro rfl
     exact hj (v9 hN e1 (I.ok.inj _ _ _ e hc▸hi))
  ·by_cases hcc:c'=c
   ·subst hcc; exact⟨_,hc'⟩
   ·obtain⟨w2,z2⟩:=I.cell y c' e
    exact⟨w2,z2.sameBut hs hcc⟩
  ·obtain⟨e,n,ne,nf,d⟩:=I.pin p hp
   refine⟨(hs.2 p.1 ?_).trans e,n,ne,nf,d⟩
   intro q
   rw[q,hoc] at e
   have q':oc=p.2:=QC e
   exact d w' (by rw[← q']; exact hocd)
theorem v5 {M:Model} {A:QG} {E:Value->Pu->Prop} {i:Nat} {x:Rr} {v:V} {u:Value} {Q:Unit->Pu->Prop} (I:Inv X pins σ H s) (hN:X.N.Nodup) (hi:X.N[i]? = some x) (hx:Loc X.env.scope x) (r:RelV v u)
  (h:∀ s',Inv X pins (σ.set i (some v)) H s'->Q () s') (hf:X.fn x=true∨X.env.scope.names.lookup x=some .local:=by first | exact .inl rfl | exact .inr rfl | assumption):PX M A (storeName X.env x u) Q E s :=
 qZ I hN hi hx r (fun s' I' _=>h s' I') hf
theorem Inv.call' {s':Pu} {ch:List Addr} (I:Inv X pins σ H s) (ho:s'.os=s.os) (u:Un (frs X.stack) ch H H' s.heap s'.heap) (hok:HOk X.prog X.w H' s'.heap) (hg:Ww s'.gens)
  (hch:∀ b∈ch,(b∈X.ex∨X.s₀.heap.objs.size<=b)/\b≠X.env.locals/\(∀ x c,X.env.cells.lookup x=some c->c≠b)/\∀ p∈X.pn++pins,p.1≠b):Inv X pins σ H' s':=by
 obtain⟨h',g',d',t',o'⟩:=s'
 have e:o'=s.os:=ho
 subst e
 exact I.call (g':=g') (t':=t') (d':=d') u hok hg hch
end
abbrev XK:=Value->Option Addr->Hp->Prop
abbrev St:=List (Option V)
abbrev VK:=V->Hp->Prop
abbrev TE:=St->Hp->VK->Prop
abbrev TT:=St->Hp->(Bool->Hp->Prop)->Prop
abbrev TA:=St->Hp->(List V->Hp->Prop)->Prop
structure Ends where
 nx:St->Hp->Prop
 rt:VK
 bk:St->Hp->Prop:=fun _ _=>False
 ct:St->Hp->Prop:=fun _ _=>False
abbrev TS:=Ends->St->Hp->Prop
inductive EP (X:Cx) (pins:List (Addr × Tq)) (σ:St) (Q:VK) (u:Value) (s':Pu):Prop where
 | mk (v:V) (H':Hp) (z0:Inv X pins σ H' s') (z1:RelV v u) (z2:Q v H'):EP X pins σ Q u s'
def TP (X:Cx) (pins:List (Addr × Tq)) (σ:St) (Q:Bool->Hp->Prop) (b:Bool) (s':Pu):Prop:=∃ H',Inv X pins σ H' s'/\Q b H'
inductive AP (X:Cx) (pins:List (Addr × Tq)) (σ:St) (Q:List V->Hp->Prop) (us:List Value) (s':Pu):Prop where
 | mk (vs:List V) (H':Hp) (z0:Inv X pins σ H' s') (z1:Vals vs us) (z2:Q vs H'):AP X pins σ Q us s'
def SP (X:Cx) (pins:List (Addr × Tq)) (D:Ends) (f:Flow) (s':Pu):Prop :=
 match f with
 | .next=>∃ σ' H',Inv X pins σ' H' s'/\D.nx σ' H'
 | .brk=>∃ σ' H',Inv X pins σ' H' s'/\D.bk σ' H'
 | .cont=>∃ σ' H',Inv X pins σ' H' s'/\D.ct σ' H'
 | .ret u=>∃ v σ' H',Inv X pins σ' H' s'/\RelV v u/\D.rt v H'
def PE (X:Cx) (e:Expr) (t:TE):Prop :=
 ∀ (pins:List (Addr × Tq)) (s:Pu) (σ:St) (H:Hp) (Q:VK),Inv X pins σ H s->t σ H Q->PX (Qo X.prog X.w) X.A (S6 e X.env) (EP X pins σ Q) X.xe s
def PT (X:Cx) (e:Expr) (t:TT):Prop :=
 ∀ (pins:List (Addr × Tq)) (s:Pu) (σ:St) (H:Hp) (Q:Bool->Hp->Prop),Inv X pins σ H s->t σ H Q->PX (Qo X.prog X.w) X.A (isTrue e X.env (S6 e X.env)) (TP X pins σ Q) X.xe s
def PW (X:Cx) (e:Expr) (t:TT):Prop :=
 ∀ (whole:Sem Value) (pins:List (Addr × Tq)) (s:Pu) (σ:St) (H:Hp) (Q:Bool->Hp->Prop),Inv X pins σ H s->t σ H Q->PX (Qo X.prog X.w) X.A (isTrue e X.env whole) (TP X pins σ Q) X.xe s
theorem PW.pt {X:Cx} {e:Expr} {t:TT} (h:PW X e t):PT X e t:=h _
def PA (X:Cx) (es:List Expr) (t:TA):Prop :=
 ∀ (pos:Vk) (pins:List (Addr × Tq)) (s:Pu) (σ:St) (H:Hp) (Q:List V->Hp->Prop),Inv X pins σ H s->t σ H Q->PX (Qo X.prog X.w) X.A (X7 (Ul pos (Qv es X.env))) (AP X pins σ Q) X.xe s
def PS (X:Cx) (st:Stmt) (t:TS):Prop :=
 ∀ (pins:List (Addr × Tq)) (s:Pu) (σ:St) (H:Hp) (D:Ends),Inv X pins σ H s->t D σ H->PX (Qo X.prog X.w) X.A (exec st X.env) (SP X pins D) X.xe s
def PSs (X:Cx) (st:List Stmt) (t:TS):Prop :=
 ∀ (pins:List (Addr × Tq)) (s:Pu) (σ:St) (H:Hp) (D:Ends),Inv X pins σ H s->t D σ H->PX (Qo X.prog X.w) X.A (execs st X.env) (SP X pins D) X.xe s
theorem thn {α:Type} {t:Sem α} {Q Q':α->Pu->Prop} {M:Model} {A:QG} {E:Value->Pu->Prop} {s:Pu} (h:PX M A t Q E s) (hQ:∀ a s,Q a s->Q' a s):PX M A t Q' E s:=Sv h hQ fun _ _ x=>x
end L2
namespace L2
open PySem PySem.Spec PyProof.Rows
section
variable {X:Cx}
inductive ExB (x:V) (P:Bool->Prop):Prop where
 | mk (c:Bool) (z0:x = .bl c) (z1:P c):ExB x P
inductive KD (i:Nat) (σ:St) (H:Hp) (Q:VK):Prop where
 | mk (v:V) (z0:σ[i]? = some (some v)) (z1:Q v H):KD i σ H Q
def Nf (i:Nat):TE:=fun σ H Q=>KD i σ H Q
def tC (v:V):TE:=fun _ H Q=>Q v H
theorem LK {i:Nat} {x:Rr} {pos:Vk} (hN:X.N[i]? = some x) (hv:Vis X.env.scope x) (hd:(x == ("__debug__" : Rr))=false:=by decide) (hcd:(x == ("__classdict__" : Rr))=false:=by decide):PE X (.Name x pos) (Nf i):=by
 intro pins s σ H Q I h
 obtain⟨v,e,h⟩:=h
 obtain⟨m,hn,hl⟩:=I.loc
 obtain⟨u,r,l⟩:=hl i x v hN e hv
 have fin:EP X pins σ Q u s:=⟨v,H,I,r,h⟩
 rcases l with⟨hk,hm⟩ | ⟨hk,c,hc,hcell⟩
 ·exact wpAny_Name (wpAny_loadName_local I.ok.kind hk hn hm fin) hd
 ·rcases hk with hk | hk
  ·exact wpAny_Name (wpAny_loadName_cell I.ok.kind hk hc hcell fin) hd
  ·exact wpAny_Name (wpAny_loadName_free I.ok.kind hk hc hcell fin hcd) hd
theorem aB {i j pos}:PE X (.Constant (.int i) j pos) (tC (.int i)):=fun _ _ _ H _ I h=>wpAny_Constant_int ⟨.int i,H,I.tok _,⟨_,rfl⟩,h⟩
theorem jw {b j pos}:PE X (.Constant (.bool b) j pos) (tC (.bl b)):=fun _ _ _ H _ I h=>Constant_bool ⟨.bl b,H,I,rfl,h⟩
theorem Lq {j pos}:PE X (.Constant .none j pos) (tC .non):=fun _ _ _ H _ I h=>Constant_none ⟨.non,H,I,rfl,h⟩
theorem cJ {x j pos}:PE X (.Constant (.str x) j pos) (tC (.str x)):=fun _ _ _ H _ I h=>Calls.Constant_str ⟨.str x,H,I.tok _,⟨_,rfl⟩,h⟩
def Gl (X:Cx) (x:Rr):Prop:=X.env.kindOf x=some .globalImplicit
theorem Ju {E:Value->Pu->Prop} {pins:List (Addr × Tq)} {s:Pu} {σ:St} {H:Hp} {x:Rr} {u:Value} {pos:Vk} {Q:Value->Pu->Prop} (I:Inv X pins σ H s) (hg:Gl X x) (hm:X.mg x=some u) (h:Q u s)
  (hd:(x == ("__debug__" : Rr))=false:=by decide):PX (Qo X.prog X.w) X.A (S6 (.Name x pos) X.env) Q E s :=
 Calls.Name_function_global I.ok.kind hg (Calls.loadGlobal_global (by rw[I.ok.glob]; exact I.mod.glob.keeps I.bk) hm h) hd
theorem fM {E:Value->Pu->Prop} {pins:List (Addr × Tq)} {s:Pu} {σ:St} {H:Hp} {x:Rr} {u:Value} {pos:Vk} {Q:Value->Pu->Prop} (I:Inv X pins σ H s) (hg:Gl X x) (hm:X.mg x=none) (hv:QZ x=some u) (h:Q u s)
  (hn:x≠"__name__":=by decide) (hd:(x == ("__debug__" : Rr))=false:=by decide):PX (Qo X.prog X.w) X.A (S6 (.Name x pos) X.env) Q E s:=by
 obtain⟨mb,h1,h2⟩:=I.mod.blt
 exact Calls.Name_function_global I.ok.kind hg (Calls.loadGlobal_builtin (by rw[I.ok.glob]; exact I.mod.glob.keeps I.bk) hm (by rw[I.ok.blt]; exact h1.keeps I.bk) ((h2 x hn).trans hv) h) hd
theorem J8 {x:Rr} {v:V} {u:Value} {pos:Vk} (hg:Gl X x) (hm:X.mg x=none) (hv:QZ x=some u) (r:RelV v u) (hn:x≠"__name__":=by decide) (hd:(x == ("__debug__" : Rr))=false:=by decide):PE X (.Name x pos) (tC v) :=
 fun _ _ _ H _ I h=>fM I hg hm hv ⟨v,H,I,r,h⟩ hn hd
variable {a b:Expr} {ta tb:TE} {pos:Vk}
def PC (X:Cx) (op:CmpOp) (a b:Expr) (t:TE):Prop :=
 ∀ (pins:List (Addr × Tq)) (s:Pu) (σ:St) (H:Hp) (Q:VK),Inv X pins σ H s->t σ H Q →
  PX (Qo X.prog X.w) X.A (S6 a X.env) (fun v s₁=>PX (Qo X.prog X.w) X.A (S6 b X.env) (fun u s₂=>PX (Qo X.prog X.w) X.A (S7 op v u) (EP X pins σ Q) X.xe s₂) X.xe s₁) X.xe s
theorem xr (b:Expr) {op:CmpOp} (h:op≠.In) (h2:op≠.NotIn):Uk op b=false:=by
 have e1:(op == CmpOp.In)=false:=by cases op <;> first | rfl | exact absurd rfl h
 have e2:(op == CmpOp.NotIn)=false:=by cases op <;> first | rfl | exact absurd rfl h2
 cases b <;> simp [Uk,e1,e2]
def Oq (ta:TE):TE:=fun σ H Q=>ta σ H fun x H1=>Q (.bl (decide (x = .non))) H1
theorem RelV.Eo {x:V} {v:Value} (r:RelV x v):(v == QT)=decide (x = .non):=by
 cases x with
 | non=>cases r; rfl
 | bl _=>cases r; rfl
 | int _=>obtain⟨t,rfl⟩:=r; rfl
 | str _=>obtain⟨t,rfl⟩:=r; rfl
 | byt _=>obtain⟨t,rfl⟩:=r; rfl
 | flt _=>obtain⟨t,rfl⟩:=r; rfl
 | ref _=>cases r; rfl
 | ty _=>cases r; rfl
theorem Hl {j pos'} (ha:PE X a ta):PC X .Is a (.Constant .none j pos') (Oq ta):=by
 intro pins s σ H Q I h
 refine thn (ha pins s σ H _ I h) fun v s1 ⟨x,H1,I1,r1,q1⟩=>?_
 exact Constant_none (is_none_gen ⟨.bl _,H1,I1,by rw[r1.Eo]; rfl,q1⟩)
def tB (t:TE):TT:=fun σ H Q=>t σ H fun x H1=>ExB x fun c=>Q c H1
theorem MP {op:CmpOp} {t:TE} (h:PC X op a b t) (h1:Uk op b=false:=by first | exact xr _ (by decide) (by decide) | rfl):PE X (.Compare a [op] [b] pos) t:=fun pins s σ H Q I hw=>wpAny_Compare1 (h pins s σ H Q I hw) h1
theorem Ba {op:CmpOp} {t:TE} (h:PC X op a b t) (h1:Uk op b=false:=by first | exact xr _ (by decide) (by decide) | rfl):PT X (.Compare a [op] [b] pos) (tB t):=by
 intro pins s σ H Q I hw
 refine wpAny_isTrue_Compare1 (thn (h pins s σ H _ I hw) fun v s1 h1=>thn h1 fun u s2 h2=>thn h2 fun c s3 ⟨x,H1,I1,r1,q1⟩=>?_) h1
 obtain⟨d,rfl,q⟩:=q1
 cases r1
 exact Th ⟨H1,I1,q⟩
theorem iz {e:Expr} {t:TE} (h:PE X e t) (he:∀ whole,isTrue e X.env whole=(do let v ← whole; standAt e.pos; holding [v] (truthy v)):=by intro _; rfl):PT X e (tB t):=by
 intro pins s σ H Q I hw
 refine isTrue_plain (thn (h pins s σ H _ I hw) fun v s1 ⟨x,H1,I1,r1,q1⟩=>?_) (he _)
 obtain⟨d,rfl,q⟩:=q1
 cases r1
 exact Th ⟨H1,I1,q⟩
variable {tA tB':TT} {rest:List Expr}
def Oc (t u:TT):TT:=fun σ H Q=>t σ H fun c H1=>if c=true then u σ H1 Q else Q false H1
def tOr (t u:TT):TT:=fun σ H Q=>t σ H fun c H1=>if c=true then Q true H1 else u σ H1 Q
def Pa (t:TT):TT:=fun σ H Q=>t σ H fun c H1=>Q (!c) H1
theorem m5 (ha:PT X a tA):PW X (.BoolOp .And [a] pos) tA:=by
 intro wh pins s σ H Q I h
 refine isTrue_and (thn (ha pins s σ H Q I h) fun c s1 e=>?_)
 cases c with
 | true=>exact isTrue_and_nil e
 | false=>exact e
theorem Lg (ha:PT X a tA):PW X (.BoolOp .Or [a] pos) tA:=by
 intro wh pins s σ H Q I h
 refine isTrue_or (thn (ha pins s σ H Q I h) fun c s1 e=>?_)
 cases c with
 | false=>exact isTrue_or_nil e
 | true=>exact e
theorem sI (ha:PT X a tA) (hb:PW X (.BoolOp .And (b::rest) pos) tB'):PW X (.BoolOp .And (a::b::rest) pos) (Oc tA tB'):=by
 intro wh pins s σ H Q I h
 refine isTrue_and (thn (ha pins s σ H _ I h) fun c s1 ⟨H1,I1,q1⟩=>?_)
 cases c with
 | true=>exact hb wh pins s1 σ H1 Q I1 q1
 | false=>exact⟨H1,I1,q1⟩
theorem Nb (ha:PT X a tA) (hb:PW X (.BoolOp .Or (b::rest) pos) tB'):PW X (.BoolOp .Or (a::b::rest) pos) (tOr tA tB'):=by
 intro wh pins s σ H Q I h
 refine isTrue_or (thn (ha pins s σ H _ I h) fun c s1 ⟨H1,I1,q1⟩=>?_)
 cases c with
 | true=>exact⟨H1,I1,q1⟩
 | false=>exact hb wh pins s1 σ H1 Q I1 q1
theorem oZ (ha:PT X a tA):PT X (.UnaryOp .Not a pos) (Pa tA):=by
 intro pins s σ H Q I h
 exact isTrue_not (ha pins s σ H (fun c H1=>Q (!c) H1) I h)
def Nm (ta tb:TE):TE:=fun σ H Q=>ta σ H fun x H1=>ExB x fun c=>if c=true then tb σ H1 Q else Q (.bl false) H1
theorem Dn {op} {t:TE} (h:PE X a t):PE X (.BoolOp op [a] pos) t:=fun pins s σ H Q I hw=>BoolOp_one (h pins s σ H Q I hw)
theorem xn (ha:PE X a ta) (hb:PE X (.BoolOp .And (b::rest) pos) tb):PE X (.BoolOp .And (a::b::rest) pos) (Nm ta tb):=by
 intro pins s σ H Q I h
 refine BoolOp_and (thn (ha pins s σ H _ I h) fun v s1 ⟨x,H1,I1,r1,q1⟩=>?_)
 obtain⟨c,rfl,q1⟩:=q1
 cases r1
 refine Th ?_
 cases c with
 | true=>exact hb pins s1 σ H1 Q I1 q1
 | false=>exact⟨.bl false,H1,I1,rfl,q1⟩
def tIf (t:TT) (ta tb:TE):TE:=fun σ H Q=>t σ H fun c H1=>if c=true then ta σ H1 Q else tb σ H1 Q
theorem wB {c:Expr} (hc:PT X c tA) (ha:PE X a ta) (hb:PE X b tb):PE X (.IfExp c a b pos) (tIf tA ta tb):=by
 intro pins s σ H Q I h
 refine wpAny_IfExp (thn (hc pins s σ H _ I h) fun d s1 ⟨H1,I1,q1⟩=>?_)
 cases d with
 | true=>exact ha pins s1 σ H1 Q I1 q1
 | false=>exact hb pins s1 σ H1 Q I1 q1
end
end L2
namespace L2
open PySem PySem.Spec PyProof.Rows
def SqL (K:Qe) (H:Hp) (a:Addr) (xs:List V):Prop :=
 Rd H a (.lst xs) ∨
  ∃ (o:Tq) (its:Array Value) (n:Nat),K.lookup a=some o/\o.cls = .type "list"/\o.dict=none/\o.data = .seq its n/\its.size<=sizeLine/\Vals xs its.toList
def SqT (K:Qe) (H:Hp) (a:Addr) (xs:List V):Prop :=
 Rd H a (.tup xs) ∨
  ∃ (o:Tq) (its:Array Value) (n:Nat),K.lookup a=some o/\o.cls = .type "tuple"/\o.data = .seq its n/\its.size<=sizeLine/\Vals xs its.toList
def OJ:Value->Option V
 | .none=>some .non
 | .bool b=>some (.bl b)
 | .int i _=>some (.int i)
 | .str x _=>some (.str x)
 | .bytes b _=>some (.byt b)
 | .float b _=>some (.flt b)
 | .ref a=>some (.ref a)
 | .type n=>some (.ty n)
 | _=>none
theorem RelV.abs {x:V} {u:Value} (r:RelV x u):OJ u=some x:=by
 cases x with
 | non=>cases r; rfl
 | bl _=>cases r; rfl
 | int _=>obtain⟨t,rfl⟩:=r; rfl
 | str _=>obtain⟨t,rfl⟩:=r; rfl
 | byt _=>obtain⟨t,rfl⟩:=r; rfl
 | flt _=>obtain⟨t,rfl⟩:=r; rfl
 | ref _=>cases r; rfl
 | ty _=>cases r; rfl
theorem RelV.inj {x y:V} {u:Value} (r:RelV x u) (q:RelV y u):x=y:=QC (r.abs.symm.trans q.abs)
theorem Vals.inj:∀ {xs ys:List V} {us:List Value},Vals xs us->Vals ys us->xs=ys
 | _,_,_,.nil,.nil=>rfl
 | _,_,_,.cons r t,.cons r' t'=>by rw[r.inj r',Vals.inj t t']
section
variable {X:Cx} {pins:List (Addr × Tq)} {σ:St} {H:Hp} {s:Pu} {a:Addr} {xs ys:List V}
theorem SqL.of {K:Qe} (h:H a=some (.lst xs)):SqL K H a xs:=.inl (.inl h)
theorem SqT.of {K:Qe} (h:H a=some (.tup xs)):SqT K H a xs:=.inl (.inl h)
theorem Inv.list (I:Inv X pins σ H s) (h:SqL X.K H a xs):∃ its:List Value,Vals xs its/\PlainL s.heap a its.toArray/\xs.length<=sizeLine:=by
 rcases h with h | ⟨o,its,n,hk,hc,hd,hs,hz,r⟩
 ·obtain⟨z,its,n,r,e⟩:=h.ok I.hok
  exact⟨its,r,⟨_,n,e,rfl,rfl,rfl⟩,z⟩
 ·refine⟨its.toList,r,⟨o,n,I.kIn a o hk,hc,hd,by simpa using hs⟩,?_⟩
  have e:=r.length
  simp only[Qs] at e
  lia
theorem Inv.tuple (I:Inv X pins σ H s) (h:SqT X.K H a xs):∃ its:List Value,Vals xs its/\IsTup s.heap a its.toArray/\xs.length<=sizeLine:=by
 rcases h with h | ⟨o,its,n,hk,hc,hs,hz,r⟩
 ·obtain⟨z,its,r,p⟩:=h.ok I.hok
  exact⟨its,r,p,z⟩
 ·refine⟨its.toList,r,⟨o,I.kIn a o hk,hc,n,by simpa using hs⟩,?_⟩
  have e:=r.length
  simp only[Qs] at e
  lia
theorem Inv.lX (I:Inv X pins σ H s) (h:SqL X.K H a xs) (h':SqL X.K H a ys):xs=ys:=by
 obtain⟨its,r,⟨o,n,e,_,_,d⟩,_⟩:=I.list h
 obtain⟨its',r',⟨o',n',e',_,_,d'⟩,_⟩:=I.list h'
 rw[e] at e'; cases e'
 rw[d] at d'
 injection d' with d1 _
 have:its=its':=by simpa using congrArg Array.toList d1
 subst this
 exact r.inj r'
theorem Inv.gG (I:Inv X pins σ H s) (h:SqT X.K H a xs) (h':SqT X.K H a ys):xs=ys:=by
 obtain⟨its,r,⟨o,e,_,n,d⟩,_⟩:=I.tuple h
 obtain⟨its',r',⟨o',e',_,n',d'⟩,_⟩:=I.tuple h'
 rw[e] at e'; cases e'
 rw[d] at d'
 injection d' with d1 _
 have:its=its':=by simpa using congrArg Array.toList d1
 subst this
 exact r.inj r'
end
abbrev Cx.wish (X:Cx) (E:Value->Pu->Prop):Cx:={ X with xe:=E }
abbrev Cx.nox (X:Cx):Cx:=X.wish fun _ _=>False
theorem Cx.Ok.wish {X:Cx} (ok:X.Ok) (E:Value->Pu->Prop):(X.wish E).Ok :=
 ⟨ok.mod,ok.kind,ok.glob,ok.blt,ok.above,ok.inj,ok.has,ok.cab,ok.hd,ok.frames,ok.stk,ok.exf,ok.bs,ok.bsz,ok.noex,ok.exfs,ok.Bf,ok.frf⟩
theorem Cx.Ok.lG {X:Cx} {E:Value->Pu->Prop} (ok:(X.wish E).Ok):X.Ok :=
 ⟨ok.mod,ok.kind,ok.glob,ok.blt,ok.above,ok.inj,ok.has,ok.cab,ok.hd,ok.frames,ok.stk,ok.exf,ok.bs,ok.bsz,ok.noex,ok.exfs,ok.Bf,ok.frf⟩
section
variable {X:Cx} {pins:List (Addr × Tq)} {σ:St} {H:Hp} {s:Pu} {E:Value->Pu->Prop}
theorem Inv.wish (I:Inv X pins σ H s) (E:Value->Pu->Prop):Inv (X.wish E) pins σ H s:=⟨I.ok.wish E,I.os,I.bare,I.base,I.loc,I.cell,I.free,I.freeC,I.pin,I.hok,I.len⟩
theorem Inv.lG (I:Inv (X.wish E) pins σ H s):Inv X pins σ H s:=⟨I.ok.lG,I.os,I.bare,I.base,I.loc,I.cell,I.free,I.freeC,I.pin,I.hok,I.len⟩
theorem SP.lG {D:Ends} {f:Flow} {s':Pu} (h:SP (X.wish E) pins D f s'):SP X pins D f s':=by
 cases f with
 | next=>obtain⟨σ',H',I,q⟩:=h; exact⟨σ',H',I.lG,q⟩
 | brk=>obtain⟨σ',H',I,q⟩:=h; exact⟨σ',H',I.lG,q⟩
 | cont=>obtain⟨σ',H',I,q⟩:=h; exact⟨σ',H',I.lG,q⟩
 | ret u=>obtain⟨v,σ',H',I,r,q⟩:=h; exact⟨v,σ',H',I.lG,r,q⟩
theorem PSs.nox {st:List Stmt} {t:TS} (h:PSs X.nox st t):PSs X st t:=fun pins s σ H D I hw =>
 Sv (h pins s σ H D (I.wish _) hw) (fun _ _ q=>q.lG) fun _ _ z=>Ux z
end
section
variable {X:Cx} {st:Stmt} {rest:List Stmt} {t u:TS} {e:Expr} {te:TE} {pos:Vk}
def Ma:TS:=fun D σ H=>D.nx σ H
def Dt (t u:TS):TS:=fun D σ H=>t { D with nx:=u D } σ H
theorem aW:PSs X [] Ma:=fun _ _ σ H _ I h=>Wx ⟨σ,H,I,h⟩
theorem aA (h1:PS X st t) (h2:PSs X rest u):PSs X (st::rest) (Dt t u):=by
 intro pins s σ H D I h
 refine wpAny_execs_cons (thn (h1 pins s σ H { D with nx:=u D } I h) fun f s1 q=>?_)
 cases f with
 | next =>
  obtain⟨σ',H',I',q⟩:=q
  exact h2 pins s1 σ' H' D I' q
 | ret v=>exact q
 | brk=>exact q
 | cont=>exact q
theorem aC (h1:PS X st t):PSs X [st] t:=by
 intro pins s σ H D I h
 refine wpAny_execs_cons (thn (h1 pins s σ H D I h) fun f s1 q=>?_)
 cases f with
 | next=>exact Wx q
 | ret v=>exact q
 | brk=>exact q
 | cont=>exact q
theorem Inv.quiet {pins:List (Addr × Tq)} {σ:St} {H:Hp} {s:Pu} (I:Inv X pins σ H s):interactive X.env=false:=by simp [interactive,I.ok.kind]
def Nq (te:TE):TS:=fun D σ H=>te σ H fun _ H1=>D.nx σ H1
theorem gk (he:PE X e te) (hs:swapsWith e none pos.line X.env=pure false:=by rfl):PS X (.Expr e pos) (Nq te):=by
 intro pins s σ H D I h
 exact wpAny_Expr_any (thn (he pins s σ H _ I h) fun v s1 ⟨x,H1,I1,r1,q1⟩=>⟨σ,H1,I1,q1⟩) I.quiet hs
def Ou (te:TE):TS:=fun D σ H=>te σ H D.rt
theorem aL (he:PE X e te):PS X (.Return (some e) pos) (Ou te):=by
 intro pins s σ H D I h
 exact wpAny_Return_some (thn (he pins s σ H _ I h) fun v s1 ⟨x,H1,I1,r1,q1⟩=>⟨x,σ,H1,I1,r1,q1⟩)
def El (c:TT) (t u:TS):TS:=fun D σ H=>c σ H fun b H1=>if b=true then t D σ H1 else u D σ H1
theorem cg {c:Expr} {a b:List Stmt} {tc:TT} (hc:PT X c tc) (ha:PSs X a t) (hb:PSs X b u):PS X (.If c a b pos) (El tc t u):=by
 intro pins s σ H D I h
 refine wpAny_If (thn (hc pins s σ H _ I h) fun d s1 ⟨H1,I1,q1⟩=>?_)
 cases d with
 | true=>exact ha pins s1 σ H1 D I1 q1
 | false=>exact hb pins s1 σ H1 D I1 q1
end
abbrev TG:=V->St->Hp->(St->Hp->Prop)->Prop
abbrev TGs:=List V->St->Hp->(St->Hp->Prop)->Prop
def PG (X:Cx) (target:Expr) (t:TG):Prop :=
 ∀ (pins:List (Addr × Tq)) (s:Pu) (σ:St) (H:Hp) (v:V) (u:Value) (Q:St->Hp->Prop),Inv X pins σ H s->RelV v u->t v σ H Q →
  PX (Qo X.prog X.w) X.A (assign target X.env u) (fun _ s'=>∃ σ' H',Inv X pins σ' H' s'/\Q σ' H') X.xe s
def PGs (X:Cx) (ts:List Expr) (t:TGs):Prop :=
 ∀ (pins:List (Addr × Tq)) (s:Pu) (σ:St) (H:Hp) (vs:List V) (us:List Value) (Q:St->Hp->Prop),Inv X pins σ H s->Vals vs us->t vs σ H Q →
  PX (Qo X.prog X.w) X.A (assignInOrder ((Vm ts X.env).map (·.2)) us) (fun _ s'=>∃ σ' H',Inv X pins σ' H' s'/\Q σ' H') X.xe s
section
variable {X:Cx} {pos:Vk}
def Gb (i:Nat):TG:=fun v σ H Q=>Q (σ.set i (some v)) H
theorem aG {i:Nat} {x:Rr} (hN:X.N.Nodup) (hi:X.N[i]? = some x) (hx:Loc X.env.scope x) (hf:X.fn x=true∨X.env.scope.names.lookup x=some .local:=by first | exact .inl rfl | exact .inr rfl | assumption):PG X (.Name x pos) (Gb i):=by
 intro pins s σ H v u Q I r h
 exact wpAny_assign_Name (v5 I hN hi hx r (fun s' I'=>⟨_,H,I',h⟩) hf)
def Oz:TGs:=fun vs σ H Q=>vs=[]/\Q σ H
inductive Gp (t:TG) (u:TGs) (vs:List V) (σ:St) (H:Hp) (Q:St->Hp->Prop):Prop where
 | mk (v:V) (r:List V) (z0:vs=v::r) (z1:t v σ H fun σ' H'=>u r σ' H' Q):Gp t u vs σ H Q
def Ny (t:TG) (u:TGs):TGs:=fun vs σ H Q=>Gp t u vs σ H Q
theorem dR:PGs X [] Oz:=by
 intro pins s σ H vs us Q I r h
 obtain⟨e,h⟩:=h
 subst e
 cases r
 exact assignInOrder_nil ⟨σ,H,I,h⟩
theorem aZ {e:Expr} {es:List Expr} {t:TG} {u:TGs} (h1:PG X e t) (h2:PGs X es u)
  (hs:(Vm (e::es) X.env).map (·.2)=assign e X.env::(Vm es X.env).map (·.2):=by rfl):PGs X (e::es) (Ny t u):=by
 intro pins s σ H vs us Q I r h
 obtain⟨v,vr,e1,h⟩:=h
 subst e1
 cases r with
 | cons r rr =>
  rw[hs]
  refine assignInOrder_cons (thn (h1 pins s σ H _ _ _ I r h) fun _ s1 ⟨σ1,H1,I1,q1⟩=>?_)
  exact h2 pins s1 σ1 H1 _ _ Q I1 rr q1
inductive KQ (K:Qe) (n:Nat) (t:TGs) (v:V) (σ:St) (H:Hp) (Q:St->Hp->Prop):Prop where
 | mk (a:Addr) (xs:List V) (z0:v = .ref a) (z1:SqT K H a xs) (z2:xs.length=n) (z3:t xs σ H Q):KQ K n t v σ H Q
def Oi (K:Qe) (n:Nat) (t:TGs):TG:=fun v σ H Q=>KQ K n t v σ H Q
theorem K6 {es:List Expr} {k:Nat} {t:TGs} {n:Nat} (hc:X.calm=true) (h:PGs X es t)
  (hn:(Vm es X.env).length=n:=by rfl) (hst:(Vm es X.env).findIdx? (·.1)=none:=by rfl):PG X (.Tuple es k pos) (Oi X.K n t):=by
 intro pins s σ H v u Q I r hw
 obtain⟨a,xs,e1,hq,hl,hw⟩:=hw
 subst e1
 cases r
 obtain⟨its,rv,ht,hz⟩:=I.tuple hq
 refine assign_Tuple_tuple (I.ok.hd hc) ht (by simp [hn,← hl,rv.length]) hst fun h' hx=>?_
 have I1:Inv X pins σ H { s with heap:=h' }:=I.kept (t':=s.toks) fun b o e=>hx b o (Qq (Qa e)) e
 exact h pins _ σ H xs _ Q I1 (by simpa using rv) hw
def N7 (te:TE) (g:TG):TS:=fun D σ H=>te σ H fun x H1=>g x σ H1 D.nx
theorem Gr {tg e:Expr} {te:TE} {g:TG} (he:PE X e te) (hg:PG X tg g) (hs:swapsWithSole [tg] e pos.line X.env=pure false:=by rfl) (hw:swappedStores [tg] e X.env=pure none:=by rfl)
  (h1:(Vm [tg] X.env).map (·.2)=[assign tg X.env]:=by rfl):PS X (.Assign [tg] e pos) (N7 te g):=by
 intro pins s σ H D I h
 refine wpAny_Assign_stores (thn (he pins s σ H _ I h) fun v s1 ⟨x,H1,I1,r1,q1⟩=>?_) hs hw
 rw[h1]
 exact thn (hg pins s1 σ H1 x v _ I1 r1 q1) fun _ s2 q=>q
theorem aR {i:Nat} {x:Rr} {e:Expr} {te:TE} {pos':Vk} (hN:X.N.Nodup) (hi:X.N[i]? = some x) (hx:Loc X.env.scope x) (he:PE X e te) (hs:swapsWith e (some (.Name x pos')) pos.line X.env=pure false:=by rfl) (hf:X.fn x=true∨X.env.scope.names.lookup x=some .local:=by first | exact .inl rfl | exact .inr rfl | assumption) :
  PS X (.Assign [.Name x pos'] e pos) (N7 te (Gb i)):=by
 intro pins s σ H D I h
 refine wpAny_Assign_Name (thn (he pins s σ H _ I h) fun v s1 ⟨y,H1,I1,r1,q1⟩=>?_) hs
 exact v5 I1 hN hi hx r1 (fun s2 I2=>⟨_,H1,I2,q1⟩) hf
end
section
variable {X:Cx} {pos:Vk}
def Gu (c:TT) (tb:TS):TS:=fun D σ H=>∃ W:Nat->St->Hp->Prop,(∃ m,W m σ H)/\∀ m σ H,W m σ H →
 c σ H fun b H1=>if b=true then ∃ N:St->Hp->Prop,(∀ σ' H',N σ' H'->∃ m',m' < m/\W m' σ' H')/\tb { D with nx:=N,ct:=N,bk:=D.nx } σ H1 else D.nx σ H1
theorem pW {c:Expr} {body:List Stmt} {tc:TT} {tb:TS} (hp:PassesOwn (Qo X.prog X.w) X.A X.env X.xe) (hc:PT X c tc) (hb:PSs X body tb):PS X (.While c body [] pos) (Gu tc tb):=by
 intro pins s σ H D I h
 obtain⟨W,⟨m0,w0⟩,turn⟩:=h
 refine wpAny_While (codeAny_whileLoop (fun n s'=>∃ σ' H',Inv X pins σ' H' s'/\W n σ' H') ?_ m0 ⟨σ,H,I,w0⟩)
 rintro n s1 ⟨σ1,H1,I1,w1⟩
 refine Ug hp (thn (hc pins s1 σ1 H1 _ I1 (turn n σ1 H1 w1)) fun b s2 ⟨H2,I2,q2⟩=>?_)
 cases b with
 | true =>
  obtain⟨N,hN,q2⟩:=q2
  rw[if_pos rfl]
  refine Ug hp (thn (hb pins s2 σ1 H2 _ I2 q2) fun f s3 q3=>?_)
  cases f with
  | next =>
   obtain⟨σ3,H3,I3,n3⟩:=q3
   obtain⟨m',hm,w3⟩:=hN σ3 H3 n3
   exact⟨m',hm,σ3,H3,I3,w3⟩
  | cont =>
   obtain⟨σ3,H3,I3,n3⟩:=q3
   obtain⟨m',hm,w3⟩:=hN σ3 H3 n3
   exact⟨m',hm,σ3,H3,I3,w3⟩
  | brk=>exact q3
  | ret v=>exact q3
 | false =>
  rw[if_neg PQ]
  exact Wx ⟨σ1,H2,I2,q2⟩
end
structure It where
 go:Nat->Hp->Prop
 yld:Nat->Hp->V->Hp->Prop
 stop:Nat->Hp->Prop
def uW (X:Cx) (pins:List (Addr × Tq)) (H:Hp) (b:Addr):Prop :=
 H b=none/\b≠X.env.locals/\b ∉ X.fs/\(b∈X.ex∨X.s₀.heap.objs.size<=b)/\(∀ x c,X.env.cells.lookup x=some c->c≠b)/\∀ p∈X.pn++pins,p.1≠b
theorem Inv.Ef {X:Cx} {pins:List (Addr × Tq)} {σ:St} {H H':Hp} {s:Pu} {b:Addr} (I:Inv X pins σ H s) (hb:s.heap.objs.size<=b) (hn:H' b=none):uW X pins H' b:=by
 refine⟨hn,RV (Ql I.lt hb),I.Pj hb,.inr (Q0 I.sz hb),fun x c e z=>?_,fun p hp z=>?_⟩
 ·obtain⟨v,q⟩:=I.cell x c e
  exact absurd (Ql q.lt (by rw[z]; exact hb)) (SX _)
 ·exact absurd (Ql (Qa (I.pin p hp).1) (by rw[z]; exact hb)) (SX _)
structure Turn (P:Qt) (w:QF) (K:Qe) (tg:Expr) (J:It) (fp:List Addr) (it:Addr) (tn:Nat->Q7->Prop):Prop where
 mem:it∈fp
 obj:∀ i h,tn i h->∀ b∈fp,∃ o,h.get? b=some o/\∀ v,o.data≠.cell v
 keep:∀ i h h',tn i h->(∀ b∈fp,∀ o,h.get? b=some o->h'.get? b=some o)->tn i h'
 item:∀ (X:Cx),X.prog=P->X.w=w->X.K=K->X.calm=true->∀ (i:Nat) (pins:List (Addr × Tq)) (s:Pu) (σ:St) (H:Hp) (E:Value->Pu->Prop),Inv X pins σ H s->(∀ b∈fp,uW X pins H b)->tn i s.heap->J.go i H →
  PX (Qo P w) X.A (Td (.ref it)) (fun r s1=>∃ u,r=some u ∧
   PX (Qo P w) X.A (Wy tg (.ref it) u) (fun _ s2=>∃ x H',Inv X pins σ H' s2/\RelV x u/\J.yld i H x H'/\tn (i+1) s2.heap/\∀ b∈fp,H' b=none) E s1) E s
 done:∀ (X:Cx),X.prog=P->X.w=w->X.K=K->X.calm=true->∀ (i:Nat) (pins:List (Addr × Tq)) (s:Pu) (σ:St) (H:Hp) (E:Value->Pu->Prop),Inv X pins σ H s->(∀ b∈fp,uW X pins H b)->tn i s.heap->J.stop i H →
  PX (Qo P w) X.A (Td (.ref it)) (fun r s1=>r=none/\Inv X pins σ H s1) E s
 self:∀ (A:QG) (i:Nat) (s:Pu) (Q:Value->Pu->Prop) (E:Value->Pu->Prop),tn i s.heap->Q (.ref it) s->PX (Qo P w) A (pyIter (.ref it)) Q E s
abbrev TI:=St->Hp->(It->Hp->Prop)->Prop
def PIE (X:Cx) (pins:List (Addr × Tq)) (σ:St) (tg:Expr) (R:It->Hp->Prop) (itv:Value) (s2:Pu):Prop :=
 ∃ (it:Addr) (fp:List Addr) (tn:Nat->Q7->Prop) (J:It) (H':Hp),itv = .ref it/\Inv X pins σ H' s2/\Turn X.prog X.w X.K tg J fp it tn/\tn 0 s2.heap/\(∀ b∈fp,uW X pins H' b)/\R J H'
def PI (X:Cx) (tg iter:Expr) (wi:TI):Prop :=
 ∀ (pins:List (Addr × Tq)) (s:Pu) (σ:St) (H:Hp) (R:It->Hp->Prop),Inv X pins σ H s->wi σ H R →
  PX (Qo X.prog X.w) X.A (S6 iter X.env) (fun v s1=>PX (Qo X.prog X.w) X.A (pyIter v) (PIE X pins σ tg R) X.xe s1) X.xe s
theorem Fp {M : Model} {A : QG} {E : Value → Pu → Prop} {s : Pu} {tg : Expr} {it : Addr} {u : Value} {o : Tq} {n : String} {vs : Array Value} {Q : Unit → Pu → Prop} (ho : s.heap.get? it = some o) (hc : o.cls = .type n) (hd : o.data = .fields vs)
    (hn : ["enumerate", "zip", "dict_itemiterator", "dict_reverseitemiterator", "odict_iterator", "itertools.zip_longest", "itertools.pairwise"].contains n = false) (hQ : Q () s) : PX M A (Wy tg (.ref it) u) Q E s := by
  unfold Wy
  cases tg <;> first
    | exact Py hQ
    | (cases u <;> first
        | exact Py hQ
        | (refine Pn (wpAny_load ho ?_)
           rw [hc, hd]
           show PX M A (if (["enumerate", "zip", "dict_itemiterator", "dict_reverseitemiterator", "odict_iterator", "itertools.zip_longest", "itertools.pairwise"].contains n && vs[0]? == some (RB _)) = true then _ else _) Q E s
           rw [if_neg (by intro h; rw [hn, Bool.false_and] at h; cases h)]
           exact Py hQ))
def Itl (K:Qe) (a:Addr):It :=
 ⟨fun i H=>∃ xs x,SqL K H a xs/\xs[i]? = some x,fun i H x H'=>H'=H/\∀ xs,SqL K H a xs->xs[i]? = some x,fun i H=>∃ xs,SqL K H a xs/\xs.length<=i⟩
def Itt (K:Qe) (a:Addr):It :=
 ⟨fun i H=>∃ xs x,SqT K H a xs/\xs[i]? = some x,fun i H x H'=>H'=H/\∀ xs,SqT K H a xs->xs[i]? = some x,fun i H=>∃ xs,SqT K H a xs/\xs.length<=i⟩
def Itr (lo:Int) (n:Nat):It:=⟨fun i _=>i < n,fun i H x H'=>H'=H/\x = .int (lo+i),fun i _=>n<=i⟩
theorem zU {P:Qt} {w:QF} {K:Qe} {tg:Expr} (a it:Addr):Turn P w K tg (Itl K a) [it] it (fun i h=>h.IsListIter it a i) where
 mem:=by simp
 obj:=fun i h st b hb=>by
  have e:b=it:=by simpa using hb
  subst e
  obtain⟨o,e,c,d⟩:=st
  exact⟨o,e,fun v z=>by rw[d] at z; cases z⟩
 keep:=fun i h h' st k=>st.at fun o e=>k it (by simp) o e
 item:=by
  intro X hP hw hK hc i pins s σ H E I hf st hg
  subst hP hw hK
  obtain⟨xs,x,hq,hx⟩:=hg
  obtain⟨its,rv,p,hz⟩:=I.list hq
  obtain⟨u,hu,ru⟩:=rv.get hx
  obtain⟨f0,f1,f2,f3,f4,f5⟩:=hf it (by simp)
  refine wpAny_pyNext_list_item st p.isList (x:=u) (by simpa using hu) fun h' st' sb=>?_
  have I1:Inv X pins σ H { s with heap:=h' }:=I.turned (t':=s.toks) (fun b o hb e=>(sb.2 b hb).trans e) f0 f1 f3 f4 f5
  obtain⟨o,e,c,d⟩:=id st'
  exact⟨u,rfl,Fp (s:={ s with heap:=h' }) e c d (by decide) ⟨x,H,I1,ru,⟨rfl,fun ys hy=>by rw[I.lX hy hq]; exact hx⟩,st',fun b hb=>(hf b hb).1⟩⟩
 done:=by
  intro X hP hw hK hc i pins s σ H E I hf st hg
  subst hP hw hK
  obtain⟨xs,hq,hx⟩:=hg
  obtain⟨its,rv,p,hz⟩:=I.list hq
  obtain⟨f0,f1,f2,f3,f4,f5⟩:=hf it (by simp)
  have hl:=rv.length
  exact wpAny_pyNext_list_end (I.ok.hd hc) st p.isList (by simp; lia) fun h' eb=>⟨rfl,I.turned (t':=s.toks) (fun b o hb e=>eb b o hb e) f0 f1 f3 f4 f5⟩
 self:=fun _ _ _ _ _ st h=>wpAny_pyIter_listiter st h
theorem yg {P:Qt} {w:QF} {K:Qe} {tg:Expr} (a it:Addr):Turn P w K tg (Itt K a) [it] it (fun i h=>h.IsTupleIter it a i) where
 mem:=by simp
 obj:=fun i h st b hb=>by
  have e:b=it:=by simpa using hb
  subst e
  obtain⟨o,e,c,d⟩:=st
  exact⟨o,e,fun v z=>by rw[d] at z; cases z⟩
 keep:=fun i h h' st k=>st.at fun o e=>k it (by simp) o e
 item:=by
  intro X hP hw hK hc i pins s σ H E I hf st hg
  subst hP hw hK
  obtain⟨xs,x,hq,hx⟩:=hg
  obtain⟨its,rv,p,hz⟩:=I.tuple hq
  obtain⟨u,hu,ru⟩:=rv.get hx
  obtain⟨f0,f1,f2,f3,f4,f5⟩:=hf it (by simp)
  refine wpAny_pyNext_tuple_item st (show s.heap.IsTuple a its.toArray from p) (x:=u) (by simpa using hu) fun h' st' sb=>?_
  have I1:Inv X pins σ H { s with heap:=h' }:=I.turned (t':=s.toks) (fun b o hb e=>(sb.2 b hb).trans e) f0 f1 f3 f4 f5
  obtain⟨o,e,c,d⟩:=id st'
  exact⟨u,rfl,Fp (s:={ s with heap:=h' }) e c d (by decide) ⟨x,H,I1,ru,⟨rfl,fun ys hy=>by rw[I.gG hy hq]; exact hx⟩,st',fun b hb=>(hf b hb).1⟩⟩
 done:=by
  intro X hP hw hK hc i pins s σ H E I hf st hg
  subst hP hw hK
  obtain⟨xs,hq,hx⟩:=hg
  obtain⟨its,rv,p,hz⟩:=I.tuple hq
  obtain⟨f0,f1,f2,f3,f4,f5⟩:=hf it (by simp)
  have hl:=rv.length
  exact wpAny_pyNext_tuple_end (I.ok.hd hc) st (show s.heap.IsTuple a its.toArray from p) (by simp; lia) fun h' eb=>⟨rfl,I.turned (t':=s.toks) (fun b o hb e=>eb b o hb e) f0 f1 f3 f4 f5⟩
 self:=fun _ _ _ _ _ st h=>wpAny_pyIter_tupleiter st h
theorem yX {P:Qt} {w:QF} {K:Qe} {tg:Expr} (it:Addr) (lo:Int) (n:Nat):Turn P w K tg (Itr lo n) [it] it (fun i h=>IsRangeIter h it (lo+(i:Nat) * 1) ((n:Int) - (i:Nat)) 1) where
 mem:=by simp
 obj:=fun i h st b hb=>by
  have e:b=it:=by simpa using hb
  subst e
  exact⟨_,st,fun v z=>by
   have z':Data.fields _=Data.cell v:=z
   cases z'⟩
 keep:=fun i h h' st k=>k it (by simp) _ st
 item:=by
  intro X hP hw hK hc i pins s σ H E I hf st hg
  subst hP hw hK
  obtain⟨f0,f1,f2,f3,f4,f5⟩:=hf it (by simp)
  have W:=Walks.range (prog:=X.prog) (w:=X.w) (I.ok.hd hc) it lo 1 n
  refine W.item i s _ _ hg st fun v h' tk hv st' kk=>?_
  obtain⟨t,rfl⟩:=hv
  have I1:Inv X pins σ H { s with heap:=h',toks:=tk }:=I.turned (fun b o hb e=>kk b o (by simpa using hb) e) f0 f1 f3 f4 f5
  refine⟨_,rfl,Fp (s:={ s with heap:=h',toks:=tk }) (n:="range_iterator") st' rfl rfl (by decide) ⟨.int (lo+i),H,I1,⟨t,?_⟩,⟨rfl,rfl⟩,st',fun b hb=>(hf b hb).1⟩⟩
  rw[Int.mul_one]
 done:=by
  intro X hP hw hK hc i pins s σ H E I hf st hg
  subst hP hw hK
  obtain⟨f0,f1,f2,f3,f4,f5⟩:=hf it (by simp)
  exact wpAny_pyNext_range_end (I.ok.hd hc) st (by have:n<=i:=hg; lia) fun h' eb=>⟨rfl,I.turned (t':=s.toks) (fun b o hb e=>eb b o hb e) f0 f1 f3 f4 f5⟩
 self:=fun _ _ _ _ _ st h=>wpAny_pyIter_rangeiter st h
end L2
namespace L2
open PySem PySem.Spec PyProof.Rows
section
variable {X:Cx} {tg:Expr}
def K5 (K:Qe) (tl:TE):TI:=fun σ H R=>tl σ H fun x H1=>∃ a,x = .ref a/\(∃ xs,SqL K H1 a xs)/\R (Itl K a) H1
def Oj (K:Qe) (tl:TE):TI:=fun σ H R=>tl σ H fun x H1=>∃ a,x = .ref a/\(∃ xs,SqT K H1 a xs)/\R (Itt K a) H1
theorem dY {l:Expr} {tl:TE} (hl:PE X l tl):PI X tg l (K5 X.K tl):=by
 intro pins s σ H R I h
 refine thn (hl pins s σ H _ I h) fun v s1 ⟨x,H1,I1,r1,q1⟩=>?_
 obtain⟨a,e,⟨xs,hq⟩,q⟩:=q1
 subst e
 cases r1
 obtain⟨its,rv,p,hz⟩:=I1.list hq
 refine Up p.isList ?_
 refine⟨s1.heap.objs.size,[s1.heap.objs.size],_,_,H1,rfl,I1.kept (t':=s1.toks) fun b o e=>Pr _ e,zU a _,⟨_,PB _ rfl,rfl,rfl⟩,fun b hb=>?_,q⟩
 have e:b=s1.heap.objs.size:=by simpa using hb
 subst e
 exact I1.Ef (PK _) (I1.hok.fresh (PK _))
theorem iM {l:Expr} {tl:TE} (hl:PE X l tl):PI X tg l (Oj X.K tl):=by
 intro pins s σ H R I h
 refine thn (hl pins s σ H _ I h) fun v s1 ⟨x,H1,I1,r1,q1⟩=>?_
 obtain⟨a,e,⟨xs,hq⟩,q⟩:=q1
 subst e
 cases r1
 obtain⟨its,rv,p,hz⟩:=I1.tuple hq
 refine T9 (show s1.heap.IsTuple a its.toArray from p) ?_
 refine⟨s1.heap.objs.size,[s1.heap.objs.size],_,_,H1,rfl,I1.kept (t':=s1.toks) fun b o e=>Pr _ e,yg a _,⟨_,PB _ rfl,rfl,rfl⟩,fun b hb=>?_,q⟩
 have e:b=s1.heap.objs.size:=by simpa using hb
 subst e
 exact I1.Ef (PK _) (I1.hok.fresh (PK _))
theorem FQ {pins:List (Addr × Tq)} {σ:St} {H:Hp} {s:Pu} {R:It->Hp->Prop} {E:Value->Pu->Prop} {lo hi:Int} {t u v:Tok} {tk:Nat} (I:Inv X pins σ H s) (h1 : -(2 ^ 62)<=lo) (h2:lo < 2 ^ 62) (h3 : -(2 ^ 62)<=hi) (h4:hi < 2 ^ 62)
  (q:R (Itr lo (hi - lo).toNat) H):PX (Qo X.prog X.w) X.A (pyIter (.ref s.heap.objs.size)) (PIE X pins σ tg R) E { s with heap:=s.heap.push { cls:=.type "range",data:=.fields #[.int lo t,.int hi u,.int 1 v] },toks:=tk }:=by
 refine wpAny_pyIter_range (IsRange.new ..) (small_one h1 h2 h3 h4) ?_
 have I1:Inv X pins σ H { s with heap:=s.heap.push { cls:=.type "range",data:=.fields #[.int lo t,.int hi u,.int 1 v] },toks:=tk }:=I.kept fun b o e=>Pr _ e
 refine⟨(s.heap.push { cls:=.type "range",data:=.fields #[.int lo t,.int hi u,.int 1 v] }).objs.size,[(s.heap.push { cls:=.type "range",data:=.fields #[.int lo t,.int hi u,.int 1 v] }).objs.size],_,_,H,rfl,
  I1.kept (t':=tk) fun b o e=>Pr _ e,yX _ lo (hi - lo).toNat,?_,fun b hb=>?_,q⟩
 ·have e1:lo+((0:Nat):Int) * 1=lo:=by simp
  have e2:(((hi - lo).toNat:Nat):Int) - ((0:Nat):Int)=Builtin.Range.rangeSize lo hi 1:=by rw[rangeSize_one]; split <;> lia
  show IsRangeIter _ _ (lo+((0:Nat):Int) * 1) ((((hi - lo).toNat:Nat):Int) - ((0:Nat):Int)) 1
  rw[e1,e2]
  exact PB _ rfl
 ·have e:b=(s.heap.push { cls:=.type "range",data:=.fields #[.int lo t,.int hi u,.int 1 v] }).objs.size:=by simpa using hb
  subst e
  exact I1.Ef (PK _) (I1.hok.fresh (PK _))
def N6 (ta:TA):TI:=fun σ H R=>ta σ H fun vs H1=>∃ j:Int,vs=[.int j]/\-(2 ^ 62)<=j/\j < 2 ^ 62/\R (Itr 0 j.toNat) H1
theorem cG {a:Expr} {ta:TA} {p pos:Vk} (hg:Gl X "range") (hm:X.mg "range" = none) (ha:PA X [a] ta) (hs:Qv [a] X.env=[(false,S6 a X.env)]:=by rfl):PI X tg (.Call (.Name "range" p) [a] [] pos) (N6 ta):=by
 intro pins s σ H R I h
 refine Call_ (fM I hg hm boot_range (Q5 (thn (ha pos pins s σ H _ I h) fun us s1 ⟨vs,H1,I1,r1,q1⟩=>?_) hs rfl))
 obtain⟨j,e,q1,q2,q⟩:=q1
 subst e
 cases r1 with
 | cons r rr =>
  cases rr
  obtain⟨t,rfl⟩:=r
  exact call_range_1 (FQ I1 (by lia) (by lia) q1 q2 (by simpa using q))
def O4 (wi:TI) (g:TG) (tb:TS):TS:=fun D σ H=>wi σ H fun J H1=>∃ W:Nat->Nat->St->Hp->Prop,(∃ m,W 0 m σ H1)/\∀ i m σ H,W i m σ H →
 (J.stop i H/\D.nx σ H)∨(J.go i H/\∃ N:St->Hp->Prop,(∀ σ' H',N σ' H'->∃ m',m' < m/\W (i+1) m' σ' H')/\∀ x H',J.yld i H x H'->g x σ H' fun σ2 H2=>tb { D with nx:=N,ct:=N,bk:=D.nx } σ2 H2)
def sS (fp:List Addr) (h:Q7):List (Addr × Tq):=fp.filterMap fun b=>(h.get? b).map fun o=>(b,o)
theorem iJ {fp:List Addr} {h:Q7} {b:Addr} {o:Tq} (hb:b∈fp) (e:h.get? b=some o):(b,o)∈sS fp h:=List.mem_filterMap.mpr ⟨b,hb,by rw[e]; rfl⟩
theorem Cp {fp:List Addr} {h:Q7} {p:Addr × Tq} (hp:p∈sS fp h):p.1∈fp/\h.get? p.1=some p.2:=by
 obtain⟨b,hb,e⟩:=List.mem_filterMap.mp hp
 cases q:h.get? b with
 | none=>rw[q] at e; cases e
 | some o =>
  rw[q] at e
  have e':(b,o)=p:=QC e
  subst e'
  exact⟨hb,q⟩
theorem Inv.pinned {pins:List (Addr × Tq)} {σ:St} {H:Hp} {s:Pu} {fp:List Addr} (I:Inv X pins σ H s) (hf:∀ b∈fp,uW X pins H b) (ho:∀ b∈fp,∃ o,s.heap.get? b=some o/\∀ v,o.data≠.cell v):Inv X (pins++sS fp s.heap) σ H s :=
 I.Bx fun p hp=>(List.mem_append.mp hp).elim (fun z=>I.pin p (Rq _ z)) fun z=>by
  obtain⟨hb,e⟩:=Cp z
  obtain⟨f0,f1,f2,_⟩:=hf p.1 hb
  obtain⟨o,e',d⟩:=ho p.1 hb
  rw[e] at e'; cases e'
  exact⟨e,f0,f1,f2,d⟩
theorem Inv.lW {pins pl:List (Addr × Tq)} {σ:St} {H:Hp} {s:Pu} (I:Inv X (pins++pl) σ H s):Inv X pins σ H s:=I.Bx fun p hp=>I.pin p (Rq _ (WT _ hp))
theorem gK {iter:Expr} {body:List Stmt} {wi:TI} {g:TG} {tb:TS} {pos:Vk} (hp:PassesOwn (Qo X.prog X.w) X.A X.env X.xe) (hc:X.calm=true) (hi:PI X tg iter wi) (hg:PG X tg g) (hb:PSs X body tb)
  (hs:∀ x,Xf iter X.env x=pure x:=by intro _; rfl):PS X (.For tg iter body [] pos) (O4 wi g tb):=by
 intro pins s σ H D I h
 refine wpAny_For (thn (hi pins s σ H _ I h) fun v s1 h1=>thn h1 fun itv s2 h2=>?_) hs
 obtain⟨it,fp,tn,J,H2,e,I2,T,st2,f2,W,⟨m0,w0⟩,turn⟩:=h2
 subst e
 have stat:∀ {H':Hp},(∀ b∈fp,H' b=none)->∀ b∈fp,uW X pins H' b:=fun hn b hb=>⟨hn b hb,(f2 b hb).2⟩
 refine codeAny_forLoop_any (fun n s'=>∃ i σ' H',Inv X pins σ' H' s'/\tn i s'.heap/\(∀ b∈fp,H' b=none)/\W i n σ' H') ?_ m0 ⟨0,σ,H2,I2,st2,fun b hb=>(f2 b hb).1,w0⟩
 rintro n s3 ⟨i,σ3,H3,I3,st3,fr3,w3⟩
 rcases turn i n σ3 H3 w3 with⟨stop,qn⟩ | ⟨go,N,hN,step⟩
 ·refine Ug hp (thn (T.done X rfl rfl rfl hc i pins s3 σ3 H3 X.xe I3 (stat fr3) st3 stop) fun r s4 ⟨hr,I4⟩=>?_)
  subst hr
  exact Wx ⟨σ3,H3,I4,qn⟩
 ·refine Ug hp (thn (T.item X rfl rfl rfl hc i pins s3 σ3 H3 X.xe I3 (stat fr3) st3 go) fun r s4 ⟨u,hr,h4⟩=>?_)
  subst hr
  refine Ug hp (thn h4 fun _ s5 ⟨x,H5,I5,r5,y5,st5,fr5⟩=>?_)
  have I5':=I5.pinned (stat fr5) (T.obj _ _ st5)
  refine Ug hp (thn (hg _ s5 σ3 H5 x u _ I5' r5 (step x H5 y5)) fun _ s6 ⟨σ6,H6,I6,q6⟩=>?_)
  refine Ug hp (thn (hb _ s6 σ6 H6 _ I6 q6) fun f s7 q7=>?_)
  have again:∀ {σ7:St} {H7:Hp},Inv X (pins++sS fp s5.heap) σ7 H7 s7->N σ7 H7->∃ m,m < n/\∃ i σ' H',Inv X pins σ' H' s7/\tn i s7.heap/\(∀ b∈fp,H' b=none)/\W i m σ' H':=fun {σ7 H7} I7 n7=>by
   obtain⟨m',hm,w7⟩:=hN σ7 H7 n7
   refine⟨m',hm,i+1,σ7,H7,I7.lW,T.keep _ _ _ st5 fun b hb o e=>(I7.pin (b,o) (Rq _ (Rq _ (iJ hb e)))).1,fun b hb=>?_,w7⟩
   obtain⟨o,e,d⟩:=T.obj _ _ st5 b hb
   exact (I7.pin (b,o) (Rq _ (Rq _ (iJ hb e)))).2.1
  cases f with
  | next=>obtain⟨σ7,H7,I7,n7⟩:=q7; exact again I7 n7
  | cont=>obtain⟨σ7,H7,I7,n7⟩:=q7; exact again I7 n7
  | brk=>obtain⟨σ7,H7,I7,q7⟩:=q7; exact⟨σ7,H7,I7.lW,q7⟩
  | ret v=>obtain⟨x7,σ7,H7,I7,r7,q7⟩:=q7; exact⟨x7,σ7,H7,I7.lW,r7,q7⟩
end
theorem my {K:Qe} {a:Addr} {xs:List V} {g:TG} {tb:TS} {D:Ends} {σ:St} {H:Hp} (Pv:Nat->St->Hp->Prop) (h0:Pv 0 σ H) (hl:∀ i σ H,i<=xs.length->Pv i σ H->SqL K H a xs)
  (hs:∀ i x σ H,xs[i]? = some x->Pv i σ H->g x σ H fun σ2 H2=>tb { D with nx:=Pv (i+1),ct:=Pv (i+1),bk:=D.nx } σ2 H2) (hd:∀ σ H,Pv xs.length σ H->D.nx σ H) :
  ∃ W:Nat->Nat->St->Hp->Prop,(∃ m,W 0 m σ H)/\∀ i m σ H,W i m σ H →
   ((Itl K a).stop i H/\D.nx σ H)∨((Itl K a).go i H/\∃ N:St->Hp->Prop,(∀ σ' H',N σ' H'->∃ m',m' < m/\W (i+1) m' σ' H')/\∀ x H',(Itl K a).yld i H x H'->g x σ H' fun σ2 H2=>tb { D with nx:=N,ct:=N,bk:=D.nx } σ2 H2):=by
 refine⟨fun i m σ H=>m=xs.length - i/\i<=xs.length/\Pv i σ H,⟨xs.length,by simp,Qw _,h0⟩,?_⟩
 rintro i m σ H ⟨rfl,hi,p⟩
 have q:=hl i σ H hi p
 by_cases hlt:i < xs.length
 ·refine .inr ⟨⟨xs,xs[i],q,by simp [hlt]⟩,Pv (i+1),fun σ' H' p'=>⟨xs.length - (i+1),by lia,rfl,hlt,p'⟩,fun x H' y=>?_⟩
  obtain⟨e,y⟩:=y
  subst e
  exact hs i x σ _ (y xs q) p
 ·have e:i=xs.length:=by lia
  subst e
  exact .inl ⟨⟨xs,q,PK _⟩,hd σ H p⟩
theorem u0 {K:Qe} {a:Addr} {xs:List V} {g:TG} {tb:TS} {D:Ends} {σ:St} {H:Hp} (Pv:Nat->St->Hp->Prop) (h0:Pv 0 σ H) (hl:∀ i σ H,i<=xs.length->Pv i σ H->SqT K H a xs)
  (hs:∀ i x σ H,xs[i]? = some x->Pv i σ H->g x σ H fun σ2 H2=>tb { D with nx:=Pv (i+1),ct:=Pv (i+1),bk:=D.nx } σ2 H2) (hd:∀ σ H,Pv xs.length σ H->D.nx σ H) :
  ∃ W:Nat->Nat->St->Hp->Prop,(∃ m,W 0 m σ H)/\∀ i m σ H,W i m σ H →
   ((Itt K a).stop i H/\D.nx σ H)∨((Itt K a).go i H/\∃ N:St->Hp->Prop,(∀ σ' H',N σ' H'->∃ m',m' < m/\W (i+1) m' σ' H')/\∀ x H',(Itt K a).yld i H x H'->g x σ H' fun σ2 H2=>tb { D with nx:=N,ct:=N,bk:=D.nx } σ2 H2):=by
 refine⟨fun i m σ H=>m=xs.length - i/\i<=xs.length/\Pv i σ H,⟨xs.length,by simp,Qw _,h0⟩,?_⟩
 rintro i m σ H ⟨rfl,hi,p⟩
 have q:=hl i σ H hi p
 by_cases hlt:i < xs.length
 ·refine .inr ⟨⟨xs,xs[i],q,by simp [hlt]⟩,Pv (i+1),fun σ' H' p'=>⟨xs.length - (i+1),by lia,rfl,hlt,p'⟩,fun x H' y=>?_⟩
  obtain⟨e,y⟩:=y
  subst e
  exact hs i x σ _ (y xs q) p
 ·have e:i=xs.length:=by lia
  subst e
  exact .inl ⟨⟨xs,q,PK _⟩,hd σ H p⟩
theorem iw {lo:Int} {n:Nat} {g:TG} {tb:TS} {D:Ends} {σ:St} {H:Hp} (Pv:Nat->St->Hp->Prop) (h0:Pv 0 σ H)
  (hs:∀ i σ H,i < n->Pv i σ H->g (.int (lo+i)) σ H fun σ2 H2=>tb { D with nx:=Pv (i+1),ct:=Pv (i+1),bk:=D.nx } σ2 H2) (hd:∀ σ H,Pv n σ H->D.nx σ H) :
  ∃ W:Nat->Nat->St->Hp->Prop,(∃ m,W 0 m σ H)/\∀ i m σ H,W i m σ H →
   ((Itr lo n).stop i H/\D.nx σ H)∨((Itr lo n).go i H/\∃ N:St->Hp->Prop,(∀ σ' H',N σ' H'->∃ m',m' < m/\W (i+1) m' σ' H')/\∀ x H',(Itr lo n).yld i H x H'->g x σ H' fun σ2 H2=>tb { D with nx:=N,ct:=N,bk:=D.nx } σ2 H2):=by
 refine⟨fun i m σ H=>m=n - i/\i<=n/\Pv i σ H,⟨n,by simp,Qw _,h0⟩,?_⟩
 rintro i m σ H ⟨rfl,hi,p⟩
 by_cases hlt:i < n
 ·refine .inr ⟨hlt,Pv (i+1),fun σ' H' p'=>⟨n - (i+1),by lia,rfl,hlt,p'⟩,fun x H' y=>?_⟩
  obtain⟨e,y⟩:=y
  subst e y
  exact hs i σ _ hlt p
 ·have e:i=n:=by lia
  subst e
  exact .inl ⟨PK _,hd σ H p⟩
theorem DG {c:TT} {tb:TS} {D:Ends} {σ:St} {H:Hp} (Pv:St->Hp->Prop) (μ:St->Hp->Nat) (h0:Pv σ H)
  (hs:∀ σ H,Pv σ H->c σ H fun b H1=>if b=true then tb { D with nx:=fun σ' H'=>Pv σ' H'/\μ σ' H' < μ σ H,ct:=fun σ' H'=>Pv σ' H'/\μ σ' H' < μ σ H,bk:=D.nx } σ H1 else D.nx σ H1)
  (mono:∀ σ H Q Q',(∀ b H1,Q b H1->Q' b H1)->c σ H Q->c σ H Q'):Gu c tb D σ H:=by
 refine⟨fun m σ H=>m=μ σ H/\Pv σ H,⟨_,rfl,h0⟩,?_⟩
 rintro m σ H ⟨rfl,p⟩
 refine mono σ H _ _ (fun b H1 q=>?_) (hs σ H p)
 cases b with
 | true=>exact⟨_,fun σ' H' ⟨p',l⟩=>⟨_,l,rfl,p'⟩,q⟩
 | false=>exact q
end L2
namespace L2
open PySem PySem.Spec PyProof.Rows
abbrev R2:=V->V->Hp->VK->Prop
def OpR (X:Cx) (f:Value->Value->Sem Value) (r:R2):Prop :=
 ∀ (pins:List (Addr × Tq)) (s:Pu) (σ:St) (H:Hp) (x y:V) (v u:Value) (Q:VK),Inv X pins σ H s->RelV x v->RelV y u->r x y H Q →
  PX (Qo X.prog X.w) X.A (f v u) (EP X pins σ Q) X.xe s
def UnR (X:Cx) (f:Value->Sem Value) (r:V->Hp->VK->Prop):Prop :=
 ∀ (pins:List (Addr × Tq)) (s:Pu) (σ:St) (H:Hp) (x:V) (v:Value) (Q:VK),Inv X pins σ H s->RelV x v->r x H Q →
  PX (Qo X.prog X.w) X.A (f v) (EP X pins σ Q) X.xe s
def ik (X:Cx) (f:Value) (r:List V->Hp->VK->Prop):Prop :=
 ∀ (pins:List (Addr × Tq)) (s:Pu) (σ:St) (H:Hp) (xs:List V) (us:List Value) (Q:VK),Inv X pins σ H s->Vals xs us->r xs H Q →
  PX (Qo X.prog X.w) X.A (call f us) (EP X pins σ Q) X.xe s
def tOp (r:R2) (ta tb:TE):TE:=fun σ H Q=>ta σ H fun x H1=>tb σ H1 fun y H2=>r x y H2 Q
def tUn (r:V->Hp->VK->Prop) (ta:TE):TE:=fun σ H Q=>ta σ H fun x H1=>r x H1 Q
inductive RII (C:Int->Int->Prop) (g:Int->Int->V) (x:V) (y:V) (H:Hp) (Q:VK):Prop where
 | mk (i:Int) (j:Int) (z0:x = .int i) (z1:y = .int j) (z2:C i j) (z3:Q (g i j) H):RII C g x y H Q
def rI (C:Int->Int->Prop) (g:Int->Int->V):R2:=fun x y H Q=>RII C g x y H Q
inductive Ol (g:Int->Int->V) (x:V) (y:V) (H:Hp) (Q:VK):Prop where
 | mk (i:Int) (j:Int) (z0:x = .int i) (z1:y = .int j) (z2:Q (g i j) H):Ol g x y H Q
def rI0 (g:Int->Int->V):R2:=fun x y H Q=>Ol g x y H Q
inductive RUI (g:Int->V) (x:V) (H:Hp) (Q:VK):Prop where
 | mk (i:Int) (z0:x = .int i) (z1:Q (g i) H):RUI g x H Q
def rU (g:Int->V):V->Hp->VK->Prop:=fun x H Q=>RUI g x H Q
section
variable {X:Cx} {a b c:Expr} {ta tb tc:TE} {pos:Vk}
theorem Ni (ha:PE X a ta) (hb:PE X b tb) {pins:List (Addr × Tq)} {s:Pu} {σ:St} {H:Hp} {R:V->V->Hp->Prop} (I:Inv X pins σ H s)
  (h:ta σ H fun x H1=>tb σ H1 fun y H2=>R x y H2) {Q:Value->Pu->Prop} {f:Value->Value->Sem Value}
  (hf:∀ v u s2 x y H2,Inv X pins σ H2 s2->RelV x v->RelV y u->R x y H2->PX (Qo X.prog X.w) X.A (f v u) Q X.xe s2) :
  PX (Qo X.prog X.w) X.A (S6 a X.env) (fun v s₁=>PX (Qo X.prog X.w) X.A (S6 b X.env) (fun u s₂=>PX (Qo X.prog X.w) X.A (f v u) Q X.xe s₂) X.xe s₁) X.xe s:=by
 refine thn (ha pins s σ H _ I h) fun v s1 ⟨x,H1,I1,r1,q1⟩=>?_
 refine thn (hb pins s1 σ H1 _ I1 q1) fun u s2 ⟨y,H2,I2,r2,q2⟩=>?_
 exact hf v u s2 x y H2 I2 r1 r2 q2
theorem aP {op:Operator} {r:R2} (ho:OpR X (Ut op) r) (ha:PE X a ta) (hb:PE X b tb):PE X (.BinOp a op b pos) (tOp r ta tb):=by
 intro pins s σ H Q I h
 exact wpAny_BinOp (Ni ha hb I h fun v u s2 x y H2 I2 rx ry q=>ho pins s2 σ H2 x y v u Q I2 rx ry q)
theorem Jf {op:UnaryOp} {r:V->Hp->VK->Prop} (ho:UnR X (unaryOp op) r) (ha:PE X a ta):PE X (.UnaryOp op a pos) (tUn r ta):=by
 intro pins s σ H Q I h
 exact UnaryOp_ (thn (ha pins s σ H _ I h) fun v s1 ⟨x,H1,I1,r1,q1⟩=>ho pins s1 σ H1 x v Q I1 r1 q1)
theorem opI {f:Value->Value->Sem Value} {C:Int->Int->Prop} {g:Int->Int->Int}
  (rule:∀ (i j:Int) (t u:Tok) (s:Pu) (Q:Value->Pu->Prop) (E:Value->Pu->Prop),C i j->Q (.int (g i j) s.toks) { s with toks:=s.toks+1 }->PX (Qo X.prog X.w) X.A (f (.int i t) (.int j u)) Q E s) :
  OpR X f (rI C fun i j=>.int (g i j)):=by
 intro pins s σ H x y v u Q I rx ry h
 obtain⟨i,j,rfl,rfl,hc,q⟩:=h
 obtain⟨t,rfl⟩:=rx
 obtain⟨t',rfl⟩:=ry
 exact rule i j t t' s _ _ hc ⟨.int (g i j),H,I.tok _,⟨_,rfl⟩,q⟩
theorem Ob {f:Value->Value->Sem Value} {g:Int->Int->Int}
  (rule:∀ (i j:Int) (t u:Tok) (s:Pu) (Q:Value->Pu->Prop) (E:Value->Pu->Prop),Q (.int (g i j) s.toks) { s with toks:=s.toks+1 }->PX (Qo X.prog X.w) X.A (f (.int i t) (.int j u)) Q E s) :
  OpR X f (rI0 fun i j=>.int (g i j)):=by
 intro pins s σ H x y v u Q I rx ry h
 obtain⟨i,j,rfl,rfl,q⟩:=h
 obtain⟨t,rfl⟩:=rx
 obtain⟨t',rfl⟩:=ry
 exact rule i j t t' s _ _ ⟨.int (g i j),H,I.tok _,⟨_,rfl⟩,q⟩
theorem NB {f:Value->Value->Sem Value} {g:Int->Int->Bool}
  (rule:∀ (i j:Int) (t u:Tok) (s:Pu) (Q:Value->Pu->Prop) (E:Value->Pu->Prop),Q (.bool (g i j)) s->PX (Qo X.prog X.w) X.A (f (.int i t) (.int j u)) Q E s) :
  OpR X f (rI0 fun i j=>.bl (g i j)):=by
 intro pins s σ H x y v u Q I rx ry h
 obtain⟨i,j,rfl,rfl,q⟩:=h
 obtain⟨t,rfl⟩:=rx
 obtain⟨t',rfl⟩:=ry
 exact rule i j t t' s _ _ ⟨.bl (g i j),H,I,rfl,q⟩
def Ot (i j:Int):Prop:=0 < j/\j < 1073741824
def O6 (i j:Int):Prop:=0<=j/\j<=1000000/\i.natAbs < 2 ^ 64
def Nr (i j:Int):Prop:=(-(2 ^ 64) < i/\i < 2 ^ 64)∨(-(2 ^ 64) < j/\j < 2 ^ 64)
theorem Nr.ok {i j:Int} (h:Nr i j):IntMulOk i j:=by
 rcases h with⟨h1,h2⟩ | ⟨h1,h2⟩
 ·exact .of_left (intBits_le_64 h1 h2)
 ·exact .of_right (intBits_le_64 h1 h2)
theorem bT:OpR X (Ut .Add) (rI0 fun i j=>.int (i+j)):=Ob fun _ _ _ _ _ _ _ q=>add_int q
theorem nG:OpR X (Ut .Sub) (rI0 fun i j=>.int (i - j)):=Ob fun _ _ _ _ _ _ _ q=>sub_int q
theorem gJ:OpR X (Ut .Mult) (rI Nr fun i j=>.int (i * j)):=opI fun _ _ _ _ _ _ _ hc q=>mul_int q hc.ok
theorem vU:OpR X (Ut .FloorDiv) (rI Ot fun i j=>.int (i / j)):=opI fun i j _ _ _ _ _ hc q=>by
 have h1:(0:Int) < j:=hc.1
 have h2:j < 1073741824:=hc.2
 exact floordiv_int (by lia) (by rw[Int.fdiv_eq_ediv_of_nonneg i (by lia)]; exact q) (.inl (PyProof.noPylong_small (by lia)))
theorem cU:OpR X (Ut .Mod) (rI (fun _ j=>0 < j) fun i j=>.int (i % j)):=opI fun i j _ _ _ _ _ hc q=>by
 have h1:(0:Int) < j:=hc
 exact mod_int' (by lia) (by rw[Int.fmod_eq_emod_of_nonneg i (by lia)]; exact q)
theorem nF:OpR X (Ut .Pow) (rI O6 fun i j=>.int (i ^ j.toNat)):=opI fun _ _ _ _ _ _ _ hc q=>pow_int_small hc.1 hc.2.1 hc.2.2 q
theorem unI {f:Value->Sem Value} {g:Int->Int}
  (rule:∀ (i:Int) (t:Tok) (s:Pu) (Q:Value->Pu->Prop) (E:Value->Pu->Prop),Q (.int (g i) s.toks) { s with toks:=s.toks+1 }->PX (Qo X.prog X.w) X.A (f (.int i t)) Q E s) :
  UnR X f (rU fun i=>.int (g i)):=by
 intro pins s σ H x v Q I rx h
 obtain⟨i,rfl,q⟩:=h
 obtain⟨t,rfl⟩:=rx
 exact rule i t s _ _ ⟨.int (g i),H,I.tok _,⟨_,rfl⟩,q⟩
theorem zz:UnR X (unaryOp .USub) (rU fun i=>.int (-i)):=unI fun _ _ _ _ _ q=>neg_int q
end
def Od:V->V->Bool
 | .non,.non=>true | .non,.int _=>true | .int _,.non=>true | .non,.bl _=>true | .bl _,.non=>true | .non,.str _=>true | .str _,.non=>true
 | .int _,.int _=>true | .bl _,.bl _=>true | .str _,.str _=>true | .byt _,.byt _=>true
 | .int _,.str _=>true | .str _,.int _=>true | .bl _,.str _=>true | .str _,.bl _=>true
 | _,_=>false
def rEq:R2:=fun x y H Q=>Od x y=true/\Q (.bl (decide (x=y))) H
def rNe:R2:=fun x y H Q=>Od x y=true/\Q (.bl (!decide (x=y))) H
theorem Bu {i j:Int}:decide (V.int i=V.int j)=(i == j):=by
 rw[VF]
 simp
theorem Gj {i j:Bool}:decide (V.bl i=V.bl j)=(i == j):=by
 rw[VF]
 simp
theorem Bd {i j:Rr}:decide (V.str i=V.str j)=(i == j):=by
 rw[VF]
 simp
theorem Dq {i j:Array UInt8}:decide (V.byt i=V.byt j)=(i.toList == j.toList):=by
 rw[VF]
 cases i
 cases j
 simp
section
variable {X:Cx} {a b c:Expr} {ta tb tc:TE} {pos:Vk}
theorem bM {pins:List (Addr × Tq)} {σ:St} {H:Hp} {s:Pu} {Q:VK} {k k':Bool} (I:Inv X pins σ H s) (q:Q (.bl k) H) (e:k=k'):EP X pins σ Q (.bool k') s:=by
 subst e
 exact⟨.bl k,H,I,rfl,q⟩
theorem gA:OpR X (S7 .Eq) rEq:=by
 intro pins s σ H x y v u Q I rx ry h
 obtain⟨hs,q⟩:=h
 cases x with
 | non =>
  cases rx
  cases y with
  | non=>cases ry; exact PySem.EqNone.eq_none_none (bM I q (by simp))
  | bl j=>cases ry; exact PySem.EqNone.eq_none_bool (bM I q (by simp))
  | int j=>obtain⟨t',rfl⟩:=ry; exact PySem.EqNone.eq_none_int (bM I q (by simp))
  | str j=>obtain⟨t',rfl⟩:=ry; exact PySem.EqNone.eq_none_str (bM I q (by simp))
  | _=>exact absurd (show false=true from hs) PQ
 | bl i =>
  cases rx
  cases y with
  | non=>cases ry; exact PySem.EqNone.eq_bool_none (bM I q (by simp))
  | bl j=>cases ry; exact eq_bool (bM I q Gj)
  | str j=>obtain⟨t',rfl⟩:=ry; exact PySem.EqMixed.eq_bool_str (bM I q (by simp))
  | _=>exact absurd (show false=true from hs) PQ
 | int i =>
  obtain⟨t,rfl⟩:=rx
  cases y with
  | non=>cases ry; exact PySem.EqNone.eq_int_none (bM I q (by simp))
  | int j=>obtain⟨t',rfl⟩:=ry; exact eq_int (bM I q Bu)
  | str j=>obtain⟨t',rfl⟩:=ry; exact PySem.EqMixed.eq_int_str (bM I q (by simp))
  | _=>exact absurd (show false=true from hs) PQ
 | str i =>
  obtain⟨t,rfl⟩:=rx
  cases y with
  | non=>cases ry; exact PySem.EqNone.eq_str_none (bM I q (by simp))
  | bl j=>cases ry; exact PySem.EqMixed.eq_str_bool (bM I q (by simp))
  | int j=>obtain⟨t',rfl⟩:=ry; exact PySem.EqMixed.eq_str_int (bM I q (by simp))
  | str j=>obtain⟨t',rfl⟩:=ry; exact eq_str (bM I q Bd)
  | _=>exact absurd (show false=true from hs) PQ
 | byt i =>
  obtain⟨t,rfl⟩:=rx
  cases y with
  | byt j=>obtain⟨t',rfl⟩:=ry; exact PySem.W.eq_bytes (bM I q Dq)
  | _=>exact absurd (show false=true from hs) PQ
 | _=>cases y <;> exact absurd (show false=true from hs) PQ
theorem J7:OpR X (S7 .NotEq) rNe:=by
 intro pins s σ H x y v u Q I rx ry h
 obtain⟨hs,q⟩:=h
 cases x with
 | non =>
  cases rx
  cases y with
  | non=>cases ry; exact PySem.EqNone.ne_none_none (bM I q (by simp))
  | bl j=>cases ry; exact PySem.EqNone.ne_none_bool (bM I q (by simp))
  | int j=>obtain⟨t',rfl⟩:=ry; exact PySem.EqNone.ne_none_int (bM I q (by simp))
  | str j=>obtain⟨t',rfl⟩:=ry; exact PySem.EqNone.ne_none_str (bM I q (by simp))
  | _=>exact absurd (show false=true from hs) PQ
 | bl i =>
  cases rx
  cases y with
  | non=>cases ry; exact PySem.EqNone.ne_bool_none (bM I q (by simp))
  | bl j=>cases ry; exact ne_bool (bM I q (congrArg not Gj))
  | str j=>obtain⟨t',rfl⟩:=ry; exact PySem.EqMixed.ne_bool_str (bM I q (by simp))
  | _=>exact absurd (show false=true from hs) PQ
 | int i =>
  obtain⟨t,rfl⟩:=rx
  cases y with
  | non=>cases ry; exact PySem.EqNone.ne_int_none (bM I q (by simp))
  | int j=>obtain⟨t',rfl⟩:=ry; exact ne_int (bM I q (congrArg not Bu))
  | str j=>obtain⟨t',rfl⟩:=ry; exact PySem.EqMixed.ne_int_str (bM I q (by simp))
  | _=>exact absurd (show false=true from hs) PQ
 | str i =>
  obtain⟨t,rfl⟩:=rx
  cases y with
  | non=>cases ry; exact PySem.EqNone.ne_str_none (bM I q (by simp))
  | bl j=>cases ry; exact PySem.EqMixed.ne_str_bool (bM I q (by simp))
  | int j=>obtain⟨t',rfl⟩:=ry; exact PySem.EqMixed.ne_str_int (bM I q (by simp))
  | str j=>obtain⟨t',rfl⟩:=ry; exact ne_str (bM I q (congrArg not Bd))
  | _=>exact absurd (show false=true from hs) PQ
 | byt i =>
  obtain⟨t,rfl⟩:=rx
  cases y with
  | byt j=>obtain⟨t',rfl⟩:=ry; exact PySem.W.ne_bytes (bM I q (congrArg not Dq))
  | _=>exact absurd (show false=true from hs) PQ
 | _=>cases y <;> exact absurd (show false=true from hs) PQ
theorem Cd:OpR X (S7 .Lt) (rI0 fun i j=>.bl (decide (i < j))):=NB fun _ _ _ _ _ _ _ q=>lt_int q
theorem vH:OpR X (S7 .Gt) (rI0 fun i j=>.bl (decide (j < i))):=NB fun _ _ _ _ _ _ _ q=>gt_int q
theorem yw:OpR X (S7 .GtE) (rI0 fun i j=>.bl (decide (j<=i))):=NB fun _ _ _ _ _ _ _ q=>ge_int q
theorem bf (b:Expr) {op:CmpOp} (h:op≠.In:=by decide) (h2:op≠.NotIn:=by decide):Uk op b=false:=by
 have e1:(op == CmpOp.In)=false:=by cases op <;> first | rfl | exact absurd rfl h
 have e2:(op == CmpOp.NotIn)=false:=by cases op <;> first | rfl | exact absurd rfl h2
 cases b <;> simp [Uk,e1,e2]
theorem gf {op:CmpOp} {r:R2} (ho:OpR X (S7 op) r) (ha:PE X a ta) (hb:PE X b tb) (hm:Uk op b=false):PE X (.Compare a [op] [b] pos) (tOp r ta tb):=by
 intro pins s σ H Q I h
 exact wpAny_Compare1 (Ni ha hb I h fun v u s2 x y H2 I2 rx ry q=>ho pins s2 σ H2 x y v u Q I2 rx ry q) hm
def Nx (t:TE):TT:=fun σ H Q=>t σ H fun x H'=>ExB x fun k=>Q k H'
theorem aV {op:CmpOp} {r:R2} (ho:OpR X (S7 op) r) (ha:PE X a ta) (hb:PE X b tb) (hm:Uk op b=false):PT X (.Compare a [op] [b] pos) (Nx (tOp r ta tb)):=by
 intro pins s σ H Q I h
 refine wpAny_isTrue_Compare1 (thn (ha pins s σ H _ I h) fun v s1 ⟨x,H1,I1,r1,q1⟩=>thn (hb pins s1 σ H1 _ I1 q1) fun u s2 ⟨y,H2,I2,r2,q2⟩ =>
  thn (ho pins s2 σ H2 x y v u _ I2 r1 r2 q2) fun c s3 ⟨z,H3,I3,r3,k,e,q3⟩=>?_) hm
 subst e
 cases r3
 exact Th ⟨H3,I3,q3⟩
theorem sE:(sizeLine:Nat) < 2 ^ 63:=by rw[Us]; decide
theorem vals1 {x:V} {us:List Value} (r:Vals [x] us):∃ u,us=[u]/\RelV x u:=by
 cases r with
 | cons r1 r2=>cases r2; exact⟨_,rfl,r1⟩
theorem vals2 {x y:V} {us:List Value} (r:Vals [x,y] us):∃ u w',us=[u,w']/\RelV x u/\RelV y w':=by
 cases r with
 | cons r1 r2 =>
  cases r2 with
  | cons r3 r4=>cases r4; exact⟨_,_,rfl,r1,r3⟩
theorem jC:ik X (.builtin "abs") (fun xs H Q=>∃ i,xs=[.int i]/\Q (.int (if i < 0 then -i else i)) H):=by
 intro pins s σ H xs us Q I r h
 obtain⟨i,rfl,q⟩:=h
 obtain⟨u,rfl,t,rfl⟩:=vals1 r
 exact call_abs_int fun u tk=>⟨.int (if i < 0 then -i else i),H,I.tok _,⟨_,rfl⟩,q⟩
theorem Cv (hc:X.calm=true):ik X (.builtin "max") (fun xs H Q=>∃ i j,xs=[.int i,.int j]/\Q (.int (if j > i then j else i)) H):=by
 intro pins s σ H xs us Q I r h
 obtain⟨i,j,rfl,q⟩:=h
 obtain⟨u,w',rfl,⟨t,rfl⟩,⟨t',rfl⟩⟩:=vals2 r
 refine max_two_ints (I.ok.hd hc) fun h' tk k=>⟨_,H,I.kept k,?_,q⟩
 by_cases hj:j > i
 ·rw[if_pos hj,if_pos hj]; exact⟨_,rfl⟩
 ·rw[if_neg hj,if_neg hj]; exact⟨_,rfl⟩
theorem qY (hc:X.calm=true):ik X (.builtin "min") (fun xs H Q=>∃ i j,xs=[.int i,.int j]/\Q (.int (if j < i then j else i)) H):=by
 intro pins s σ H xs us Q I r h
 obtain⟨i,j,rfl,q⟩:=h
 obtain⟨u,w',rfl,⟨t,rfl⟩,⟨t',rfl⟩⟩:=vals2 r
 refine min_two_ints (I.ok.hd hc) fun h' tk k=>⟨_,H,I.kept k,?_,q⟩
 by_cases hj:j < i
 ·rw[if_pos hj,if_pos hj]; exact⟨_,rfl⟩
 ·rw[if_neg hj,if_neg hj]; exact⟨_,rfl⟩
theorem CJ:ik X (.type "int") (fun xs H Q=>(∃ i,xs=[.int i]/\Q (.int i) H)∨∃ k,xs=[.bl k]/\Q (.int (if k then 1 else 0)) H):=by
 intro pins s σ H xs us Q I r h
 rcases h with⟨i,rfl,q⟩ | ⟨k,rfl,q⟩
 ·obtain⟨u,rfl,t,rfl⟩:=vals1 r
  exact call_int_int ⟨.int i,H,I,⟨_,rfl⟩,q⟩
 ·obtain⟨u,rfl,r1⟩:=vals1 r
  cases r1
  exact call_int_bool ⟨.int (if k then 1 else 0),H,I.tok _,⟨_,rfl⟩,q⟩
end
end L2
namespace L2
open PySem PySem.Spec PyProof.Rows
structure M7 (h:Q7) (x dx C:Addr) (mA:Rr->Option Value):Prop where
 obj:h.get? x=some (XX C dx)
 ns:h.Ns1 dx mA
 ne:dx≠x
theorem Aw {h:Q7} {dx:Addr} {mA:Rr->Option Value} (n:h.Ns1 dx mA):∃ od,h.get? dx=some od/\∀ name,PySem.W.lookIn name od=some (mA name):=by
 obtain⟨o,es,ep,ho,hd,hk,_,hm⟩:=n
 refine⟨o,ho,fun name=>?_⟩
 have e:=hm name
 unfold nsFind findBy at e
 rw[← Array.find?_toList] at e
 unfold PySem.W.lookIn
 rw[hd]
 dsimp only
 split
 ·rename_i y q
  rw[q] at e
  exact congrArg some e
 ·rename_i q
  rw[q] at e
  have a:es.toList.any (·.refKey)=false:=by
   rw[List.any_eq_false]
   intro y hy
   obtain⟨z,t,hkey⟩:=hk y (Array.mem_toList_iff.mp hy)
   simp [DictEntry.refKey,hkey]
  have a':¬ es.toList.any (·.refKey)=true:=by rw[a]; exact PQ
  rw[if_neg a']
  exact congrArg some e
theorem M7.look {h:Q7} {x dx C:Addr} {mA:Rr->Option Value} (I:M7 h x dx C mA):∃ od,PySem.W.InstAt h x (XX C dx) C (some od)/\∀ name,PySem.W.lookIn name od=some (mA name) :=
 let ⟨od,ho,hl⟩:=Aw I.ns
 ⟨od,⟨I.obj,rfl,rfl,ho⟩,hl⟩
section
variable {prog:Qt} {w:QF} {A:QG} {E:Value->Pu->Prop} {s:Pu} {K:Qe} {x dx C f:Addr} {mA:Rr->Option Value} {name:Rr} {v:Value}
end
theorem zr.some_of {v:V} {o:Option Value} (r:zr (some v) o):∃ u,o=some u/\RelV v u:=by
 cases o with
 | none=>exact (show False from r).elim
 | some u=>exact⟨u,rfl,r⟩
section
variable {P:Qt} {w:QF} {H H':Hp} {h h':Q7} {a C dx:Addr} {fs fs':List (Rr × V)}
theorem JL (hok:HOk P w H h) (e:H a=some (.ins C dx fs)):∃ mA,M7 h a dx C mA/\(∀ f,zr (fs.lookup f) (mA f))/\PySem.Within mA (fs.map (·.1))/\fs.length<=1000/\H dx=some (.own a):=by
 obtain⟨d,z,ne,ob,mA,n,r,q⟩:=(show dJ P w H h a (.ins C dx fs) from hok a _ e)
 exact⟨mA,⟨ob,n,ne⟩,r,q,z,d⟩
end
structure Cls (K:Qe) (C:Addr):Prop where
 pg:PySem.W.plainGet K C Str.empty=true
 hd:PySem.W.hasDictIn K C=true
 po:PySem.W.plainOver K C=true
 sa:PySem.W.findIn K (.ref C) "__setattr__" = some (some (.builtin "object.__setattr__"))
theorem Cls.get {K:Qe} {C:Addr} (c:Cls K C) (f:Rr):PySem.W.plainGet K C f=true:=c.pg
section
variable {X:Cx} {pins:List (Addr × Tq)} {σ:St} {H:Hp} {s:Pu} {a C dx:Addr} {fs:List (Rr × V)} {f:Rr} {v:V} {A:QG} {E:Value->Pu->Prop}
end
section
variable {X:Cx} {o e value:Expr} {f:Rr} {pos pos' tpos:Vk} {ta tv:TE}
end
section
variable {X:Cx} {pins:List (Addr × Tq)} {σ:St} {H:Hp} {s:Pu} {A:QG} {E:Value->Pu->Prop} {Q:Value->Pu->Prop} {c:Value} {b:Bool}
inductive yV (K:Qe) (H:Hp):V->Value->Prop where
 | non:yV K H .non (.type "NoneType")
 | bl (x:Bool):yV K H (.bl x) (.type "bool")
 | int (i:Int):yV K H (.int i) (.type "int")
 | str (x:Rr):yV K H (.str x) (.type "str")
 | flt (x:UInt64):yV K H (.flt x) (.type "float")
 | lst {a:Addr} {xs:List V} (e:H a=some (.lst xs)):yV K H (.ref a) (.type "list")
 | frz {a:Addr} {o:Tq} {xs:List V} (e:H a=some (.frz o (.lst xs))):yV K H (.ref a) (.type "list")
 | tup {a:Addr} {xs:List V} (e:H a=some (.tup xs)):yV K H (.ref a) (.type "tuple")
 | dK {a:Addr} {kvs:List (Key × V)} (e:H a=some (.dK kvs)):yV K H (.ref a) (.type "dict")
 | dT {a:Addr} {kvs:List (List Key × V)} (e:H a=some (.dT kvs)):yV K H (.ref a) (.type "dict")
 | ins {a C dx:Addr} {fs:List (Rr × V)} (e:H a=some (.ins C dx fs)) (cl:Cls K C) (ha:PySem.W.findIn K (.ref C) "__class__" = some (some (.builtin "object.__class__")))
   (hn:PySem.W.specialIn K (.builtin "object.__class__") "__get__" = some (some (.builtin "getset_descriptor.__get__"))) (htk:PySem.W.takesIn K (.builtin "object.__class__")=some true)
   (hm:PySem.W.mroIn K C (.type "object")=some true):yV K H (.ref a) (.ref C)
theorem Bc {x:V} {u t:Value} (I:Inv X pins σ H s) (rx:RelV x u) (ty:yV X.K H x t) (e:PySem.W.kitOne X.K t c=some b) (h:∀ tk,Q (.bool b) { s with toks:=tk }) :
  PX (Qo X.prog X.w) A (call (.builtin "isinstance") [u,c]) Q E s:=by
 cases ty with
 | non=>cases (show u=QT from rx); exact RT PySem.W.kitx_none I.kIn Uu e (fun z=>nomatch z) h
 | bl y=>cases (show u=Value.bool y from rx); exact RT PySem.W.kitx_bool I.kIn Uu e (fun z=>nomatch z) h
 | int i=>obtain⟨t,q⟩:=(show ∃ t,u=TJ i t from rx); cases q; exact RT PySem.W.kitx_int I.kIn Uu e (fun z=>nomatch z) h
 | str y=>obtain⟨t,q⟩:=(show ∃ t,u=Value.str y t from rx); cases q; exact RT PySem.W.kitx_str I.kIn Uu e (fun z=>nomatch z) h
 | flt y=>obtain⟨t,q⟩:=(show ∃ t,u=Value.float y t from rx); cases q; exact RT PySem.W.kitx_float I.kIn Uu e (fun z=>nomatch z) h
 | @lst a xs ea =>
  cases (show u=QK a from rx)
  obtain⟨_,_,n,_,h1⟩:=(show dJ X.prog X.w H s.heap a (.lst xs) from I.hok a _ ea)
  exact RT PySem.W.kitx_list I.kIn ⟨_,h1,rfl⟩ e (fun z=>nomatch z) h
 | @frz a ob xs ea =>
  cases (show u=QK a from rx)
  obtain⟨_,_,_,n,_,h1⟩:=(show dJ X.prog X.w H s.heap a (.frz ob (.lst xs)) from I.hok a _ ea)
  exact RT PySem.W.kitx_list I.kIn ⟨_,h1,rfl⟩ e (fun z=>nomatch z) h
 | @tup a xs ea =>
  cases (show u=QK a from rx)
  obtain⟨_,_,_,p⟩:=(show dJ X.prog X.w H s.heap a (.tup xs) from I.hok a _ ea)
  obtain⟨o,h1,h2,_⟩:=p
  exact RT PySem.W.kitx_tuple I.kIn ⟨o,h1,h2⟩ e (fun z=>nomatch z) h
 | @dK a kvs ea =>
  cases (show u=QK a from rx)
  obtain⟨_,_,vs,_,p⟩:=(show dJ X.prog X.w H s.heap a (.dK kvs) from I.hok a _ ea)
  obtain⟨o,es,ep,h1,h2,_⟩:=p
  exact RT PySem.W.kitx_dict I.kIn ⟨o,h1,h2.1⟩ e (fun z=>nomatch z) h
 | @dT a kvs ea =>
  cases (show u=QK a from rx)
  obtain⟨_,_,xs,_,o,es,ep,h1,h2,_⟩:=(show dJ X.prog X.w H s.heap a (.dT kvs) from I.hok a _ ea)
  exact RT PySem.W.kitx_dict I.kIn ⟨o,h1,h2.1⟩ e (fun z=>nomatch z) h
 | @ins a C dx fs ea cl ha hn htk hm =>
  cases (show u=QK a from rx)
  obtain⟨mA,O,_⟩:=JL I.hok ea
  obtain⟨od,J,_⟩:=O.look
  exact RT (PySem.W.kitx_own (cl.get _) cl.hd ha hn htk hm) I.kIn J e (fun z=>nomatch z) h
end
end L2
namespace L2
open PySem PySem.Spec PyProof.Rows
structure oG (k:Nat) (A:QG):Prop where
 hd:A.handled=none
 dp:A.depth+3 * k+5 < recursionLimit
 un:A.units+16 * k+200 < cLine
theorem oG.mono {j k:Nat} {A:QG} (r:oG k A) (h:j<=k):oG j A:=⟨r.hd,by have:=r.dp; lia,by have:=r.un; lia⟩
theorem oG.deeper {k:Nat} {A:QG} (r:oG (k+1) A) (env:Env):oG k (A.deeper env) :=
 ⟨r.hd,by have:=r.dp; show A.depth+1+3 * k+5 < _; lia,by have:=r.un; show A.units+3+16 * k+200 < _; lia⟩
theorem oG.depth {k:Nat} {A:QG} (r:oG k A):A.depth < recursionLimit:=by have:=r.dp; lia
theorem oG.mF {k:Nat} {A:QG} (r:oG k A):A.units < cLine:=by have:=r.un; lia
def LQ:TA:=fun _ H Q=>Q [] H
def J2 (ta:TE) (tr:TA):TA:=fun σ H Q=>ta σ H fun x H1=>tr σ H1 fun xs H2=>Q (x::xs) H2
section
variable {X:Cx} {e:Expr} {es:List Expr} {te:TE} {t:TA} {pos:Vk}
theorem aq:PA X [] LQ:=fun _ _ _ _ H Q I h=>Xq ⟨[],H,I,.nil,h⟩
theorem aa (ha:PE X e te) (hr:PA X es t) (hs:Qv (e::es) X.env=(false,S6 e X.env)::Qv es X.env:=by rfl):PA X (e::es) (J2 te t):=by
 intro pos pins s σ H Q I h
 rw[hs]
 show PX _ _ (X7 ((false,S6 e X.env)::Ul pos (Qv es X.env))) _ _ s
 refine Xb (thn (ha pins s σ H _ I h) fun u s1 ⟨x,H1,I1,r1,q1⟩=>?_)
 exact thn (hr pos pins s1 σ H1 _ I1 q1) fun us s2 ⟨xs,H2,I2,r2,q2⟩=>⟨x::xs,H2,I2,.cons r1 r2,q2⟩
def Oh (t:TA):TE:=fun σ H Q=>t σ H fun xs H1=>xs.length<=sizeLine/\∀ p,H1 p=none->Q (.ref p) (upd H1 p (.tup xs))
def Pg (t:TA):TE:=fun σ H Q=>t σ H fun xs H1=>xs.length<=sizeLine/\∀ p,H1 p=none->Q (.ref p) (upd H1 p (.lst xs))
theorem bQ {x1} (h:PA X es t):PE X (.Tuple es x1 pos) (Oh t):=by
 intro pins s σ H Q I hq
 refine wpAny_Tuple_spliced (thn (h pos pins s σ H _ I hq) fun us s1 ⟨xs,H1,I1,r,z,q⟩=>⟨by rw[← r.length]; exact z,?_⟩)
 have hf:H1 s1.heap.objs.size=none:=I1.hok.fresh (PK _)
 refine⟨.ref s1.heap.objs.size,upd H1 s1.heap.objs.size (.tup xs),I1.laid (t':=s1.toks) (fun b u e=>Pr _ e) (PK _) ?_,rfl,q _ hf⟩
 exact⟨z,us,r,⟨_,PB _ rfl,rfl,_,rfl⟩⟩
theorem bK (h:PA X es t):PE X (.List es pos) (Pg t):=by
 intro pins s σ H Q I hq
 refine wpAny_List_spliced (thn (h pos pins s σ H _ I hq) fun us s1 ⟨xs,H1,I1,r,z,q⟩=>⟨by rw[← r.length]; exact z,?_⟩)
 have hf:H1 s1.heap.objs.size=none:=I1.hok.fresh (PK _)
 refine⟨.ref s1.heap.objs.size,upd H1 s1.heap.objs.size (.lst xs),I1.laid (t':=s1.toks) (fun b u e=>Pr _ e) (PK _) ?_,rfl,q _ hf⟩
 exact⟨z,us,0,r,PB _ rfl⟩
end
abbrev Sp:=List V->Hp->VK->XK->Prop
abbrev CXT:=List Env->Hp->Pu->XK->Value->Pu->Prop
structure MT (P:Qt) (w:QF) (K:Qe) (mg:Rr->Option Value) (base:Q7) (A:QG) (outer:List Env) (s:Pu) (H:Hp):Prop where
 frames:A.frames=some outer
 mod:Mod K mg base
 bs:∀ b o,base.get? b=some o->s.heap.get? b=some o/\H b=none
 bsz:base.objs.size<=s.heap.objs.size
 Bf:s.heap.FunFrames base outer
 frf:∀ b∈frs outer,H b=none
 hok:HOk P w H s.heap
 bare:Ww s.gens
def CE (outer:List Env) (P:Qt) (w:QF) (H:Hp) (s:Pu) (Q:VK) (u:Value) (s':Pu):Prop :=
 ∃ v H',s'.os=s.os/\Ww s'.gens/\Un (frs outer) [] H H' s.heap s'.heap/\HOk P w H' s'.heap/\RelV v u/\Q v H'
def CR (CX:CXT) (outer:List Env) (P:Qt) (w:QF) (H:Hp) (s:Pu) (Q:VK) (E:XK) (r:W8) (s':Pu):Prop :=
 match r with
 | .ok (.ret u)=>CE outer P w H s Q u s'
 | .ok _=>False
 | .error e=>CX outer H s E e s'
structure eX (P:Qt) (w:QF) (K:Qe) (mg:Rr->Option Value) (base:Q7) (CX:CXT) (k:Nat) (f:Addr) (fd:Ui) (ps:List Rr) (sp:Sp):Prop where
 len:∀ vs H Q E,sp vs H Q E->vs.length=ps.length
 run:∀ (A:QG) (outer:List Env) (s:Pu) (H:Hp) (args:Args) (us:List Value) (vs:List V) (Q:VK) (E:XK),oG k A->MT P w K mg base A outer s H->WX s fd args (ps.zip us)->Vals vs us->sp vs H Q E →
  UJ (Qo P w) A (.call (.ref f) args) (CR CX outer P w H s Q E) s
section
variable {X:Cx} {pins:List (Addr × Tq)} {σ:St} {H:Hp} {s s':Pu}
theorem Inv.env0 (I:Inv X pins σ H s):MT X.prog X.w X.K X.mg X.base X.A X.stack s H :=
 ⟨I.ok.frames,I.ok.mod,I.bs,Q0 I.ok.bsz I.sz,I.stack,I.Cy,I.hok,I.bare⟩
theorem Inv.after {Q:VK} {u:Value} (I:Inv X pins σ H s) (h:CE X.stack X.prog X.w H s Q u s'):EP X pins σ Q u s':=by
 obtain⟨v,H',os,bare,un,hok,r,q⟩:=h
 obtain⟨hh,g,d,t,os'⟩:=s'
 obtain rfl:os'=s.os:=os
 exact⟨v,H',I.call (h':=hh) (g':=g) (d':=d) (t':=t) (ch:=[]) un hok bare (fun b z=>absurd z (by simp)),r,q⟩
end
def Mx (sp:Sp) (dvs:List V) (E:XK) (t:TA):TE:=fun σ H Q=>t σ H fun vs H1=>sp (vs++dvs) H1 Q E
def Binds (K:Qe) (fd:Ui) (ps:List Rr) (ds:List Value):Prop :=
 ∀ (s:Pu) (us:List Value),K.In s.heap->(us++ds).length=ps.length->WX s fd ⟨us,[]⟩ (ps.zip (us++ds))
theorem Binds.all {K:Qe} {fd:Ui} {ps:List Rr} (h:∀ us:List Value,us.length=ps.length->bindArgs fd ⟨us,[]⟩=pure (ps.zip us)):Binds K fd ps []:=fun s us _ hl=>by
 rw[Sx] at hl ⊢
 exact .of_eq (h us hl)
def Passes (CX:CXT) (X:Cx) (E:XK):Prop:=∀ (pins:List (Addr × Tq)) (σ:St) (H:Hp) (s:Pu) (e:Value) (s':Pu),Inv X pins σ H s->CX X.stack H s E e s'->X.xe e s'
section
variable {X:Cx} {CX:CXT} {k:Nat} {f C:Addr} {fd:Ui} {ps:List Rr} {sp:Sp} {dvs:List V} {ds:List Value} {E:XK} {x m:Rr} {p pos apos:Vk} {e o:Expr} {es:List Expr} {ta:TE} {t:TA}
theorem Kw {pins:List (Addr × Tq)} {σ:St} {H:Hp} {s:Pu} {Q:VK} {us:List Value} {vs:List V} (F:eX X.prog X.w X.K X.mg X.base CX k f fd ps sp) (hr:oG k X.A) (hb:Binds X.K fd ps ds) (hd:Vals dvs ds) (hx:Passes CX X E)
  (I:Inv X pins σ H s) (r:Vals vs us) (h:sp (vs++dvs) H Q E):PX (Qo X.prog X.w) X.A (call (.ref f) us) (EP X pins σ Q) X.xe s:=by
 have r2:Vals (vs++dvs) (us++ds):=r.append hd
 have hl:(us++ds).length=ps.length:=by rw[← r2.length]; exact F.len _ _ _ _ h
 refine wpAny_call (Ws (F.run X.A X.stack s H ⟨us,[]⟩ (us++ds) (vs++dvs) Q E hr I.env0 (hb s us I.kIn hl) r2 h) fun r s' hq=>?_)
 cases r with
 | error e=>exact hx pins σ H s e s' I hq
 | ok fl =>
  cases fl with
  | ret u=>exact I.after hq
  | next=>exact Ux hq
  | brk=>exact Ux hq
  | cont=>exact Ux hq
theorem IW (F:eX X.prog X.w X.K X.mg X.base CX k f fd ps sp) (hr:oG k X.A) (hg:Gl X x) (hm:X.mg x=some (.ref f)) (hk:V2 X.K (.ref f)=true) (hb:Binds X.K fd ps ds) (hd:Vals dvs ds) (hx:Passes CX X E)
  (ha:PA X (e::es) t) (hdb:(x == ("__debug__" : Rr))=false:=by decide) (he:Qv (e::es) X.env=(false,S6 e X.env)::Qv es X.env:=by rfl) (hpl:(Ul pos (Qv es X.env)).any (·.1)=false:=by rfl) :
  PE X (.Call (.Name x p) (e::es) [] pos) (Mx sp dvs E t):=by
 intro pins s σ H Q I h
 refine Sh (Ju I hg hm ?_ hdb)
 refine PySem.W.callWith_K (h₀:=X.base) I.ok.mod.kin hk (thn (ha pos pins s σ H _ I h) fun us s1 ⟨vs,H1,I1,r,q⟩=>⟨I1.kIn,?_⟩) he hpl
 exact Kw F hr hb hd hx I1 r q
end
section
variable {X:Cx} {CX:CXT} {k:Nat} {f C:Addr} {fd:Ui} {ps ks:List Rr} {sp:Sp} {E:XK} {x m:Rr} {p pos apos kpos:Vk} {e o:Expr} {es:List Expr} {kws:List Keyword} {te ta:TE} {t tk:TA} {nm:Option Rr}
variable {g:List Value->List Value->List Value} {gV:List V->List V->List V}
end
structure aX (N P:List Rr) (sc:Ve):Prop where
 kind:sc.kind = .function
 co:sc.isCoroutine=false
 gen:sc.isGenerator=false
 nd:N.Nodup
 pre:N.take P.length=P
 par:∀ x∈P,sc.names.lookup x=some .local∨sc.names.lookup x=some .cell
 nofree:∀ y∈sc.names,y.2≠.free
theorem sU {kindOf:Rr->Option V3} {x:Rr}:∀ {binds:List (Rr × Value)} {m:Rr->Option Value},(∀ v,(x,v) ∉ binds)->bindL kindOf binds m x=m x
 | [],_,_=>rfl
 | (n,v)::r,m,h=>by
  unfold bindL
  rw[sU fun w hw=>h w (Qc _ hw)]
  split
  ·have:x≠n:=by rintro rfl; exact h v PN
   simp [this]
  ·rfl
theorem tY {kindOf:Rr->Option V3} {x:Rr}:∀ {binds:List (Rr × Value)} {m:Rr->Option Value},(∀ v,(x,v) ∉ binds)->bindC kindOf binds m x=m x
 | [],_,_=>rfl
 | (n,v)::r,m,h=>by
  unfold bindC
  rw[tY fun w hw=>h w (Qc _ hw)]
  split
  ·rfl
  ·have:x≠n:=by rintro rfl; exact h v PN
   simp [this]
theorem uh {kindOf:Rr->Option V3} {x:Rr} {v:Value}:∀ {P:List Rr} {vs:List Value} {i:Nat} {m:Rr->Option Value},P.Nodup->P[i]? = some x->vs[i]? = some v->kindOf x=some .local →
  bindL kindOf (P.zip vs) m x=some v
 | [],_,_,_,_,h,_,_=>by simp at h
 | _::_,[],_,_,_,_,h,_=>by simp at h
 | p::P,w::vs,0,m,nd,h1,h2,hk=>by
  simp at h1 h2; subst h1; subst h2
  show bindL kindOf ((p,w)::P.zip vs) m p=_
  unfold bindL
  rw[sU fun v hv=>(List.nodup_cons.mp nd).1 (X3 hv).1,if_pos hk]
  simp
 | p::P,w::vs,i+1,m,nd,h1,h2,hk=>by
  show bindL kindOf ((p,w)::P.zip vs) m x=_
  unfold bindL
  exact uh (i:=i) (List.nodup_cons.mp nd).2 (by simpa using h1) (by simpa using h2) hk
theorem rO {kindOf:Rr->Option V3} {x:Rr} {v:Value}:∀ {P:List Rr} {vs:List Value} {i:Nat} {m:Rr->Option Value},P.Nodup->P[i]? = some x->vs[i]? = some v->kindOf x≠some .local →
  bindC kindOf (P.zip vs) m x=some v
 | [],_,_,_,_,h,_,_=>by simp at h
 | _::_,[],_,_,_,_,h,_=>by simp at h
 | p::P,w::vs,0,m,nd,h1,h2,hk=>by
  simp at h1 h2; subst h1; subst h2
  show bindC kindOf ((p,w)::P.zip vs) m p=_
  unfold bindC
  rw[tY fun v hv=>(List.nodup_cons.mp nd).1 (X3 hv).1,if_neg hk]
  simp
 | p::P,w::vs,i+1,m,nd,h1,h2,hk=>by
  show bindC kindOf ((p,w)::P.zip vs) m x=_
  unfold bindC
  exact rO (i:=i) (List.nodup_cons.mp nd).2 (by simpa using h1) (by simpa using h2) hk
def start (N:List Rr) (vs:List V):St:=vs.map some++Qd (N.length - vs.length) none
def Kg (CX:CXT) (P:Qt) (w:QF) (K:Qe) (mg:Rr->Option Value) (base:Q7) (N:List Rr) (qual:Rr) (scope:Ve) (f:Addr) (cd:Value) (A:QG) (outer:List Env) (s:Pu) (H:Hp) (E:XK):Cx where
 prog:=P
 w:=w
 K:=K
 mg:=mg
 base:=base
 A:=A.deeper (W6 qual scope s.heap.objs.size f cd)
 N:=N
 s₀:=s
 H₀:=H
 env:=W6 qual scope s.heap.objs.size f cd
 outer:=outer
 stack:=W6 qual scope s.heap.objs.size f cd::outer
 ex:=[]
 calm:=true
 fn:=fun _=>true
 pn:=[]
 xe:=fun e s'=>PX (Qo P w) (A.deeper (W6 qual scope s.heap.objs.size f cd)) (leaving (W6 qual scope s.heap.objs.size f cd) e) (fun _ s''=>CX outer H s E e s'') (fun e' s''=>CX outer H s E e' s'') s'
theorem wu {sc:Ve} {n:Nat} {x:Rr} (h:sc.names.lookup x=some .cell):∃ c,(cellsFrom n sc.names []).lookup x=some c:=by
 have q:=PySem.W.cellsFrom_some sc.names n [] (.inl h)
 exact Option.isSome_iff_exists.mp q
theorem Af {CX:CXT} {P:Qt} {w:QF} {K:Qe} {mg:Rr->Option Value} {base:Q7} {N ps:List Rr} {qual:Rr} {scope:Ve} {f:Addr} {cd:Value} {A:QG} {outer:List Env} {s s1:Pu} {H:Hp} {E:XK} {us:List Value} {vs:List V}
  (S:aX N ps scope) (hd:A.handled=none) (e0:MT P w K mg base A outer s H) (hl:vs.length=ps.length) (r:Vals vs us)
  (x:InCallC s s.heap.objs.size (bindL (W6 qual scope s.heap.objs.size f cd).kindOf (ps.zip us) fun _=>none) (cellsFrom (s.heap.objs.size+1) scope.names []) (bindC (W6 qual scope s.heap.objs.size f cd).kindOf (ps.zip us) fun _=>none) s1) :
  Inv (Kg CX P w K mg base N qual scope f cd A outer s H E) [] (start N vs) H s1:=by
 have hpl:ps.length<=N.length:=by have:=congrArg Vv S.pre; rw[Qh] at this; lia
 obtain⟨h1,tk,rfl,hk⟩:=x.done
 have noA:∀ b:Addr,b ∉ (Kg CX P w K mg base N qual scope f cd A outer s H E).ex:=fun b z=>absurd (show b∈([]:List Addr) from z) (by simp)
 refine⟨⟨e0.mod,S.kind,rfl,rfl,PK _,fun y z c h1 h2=>?_,fun y hy=>?_,fun y c _ h=>?_,fun _=>hd,Around.frames_deeper e0.frames,.inr ⟨rfl,rfl⟩,fun b z=>absurd z (noA b),e0.bs,e0.bsz,fun b _ _=>noA b,fun b z=>absurd z (noA b),e0.Bf,e0.frf⟩,
  rfl,e0.bare,Un.kept hk,⟨_,x.toInCall.ns,fun i y v h1 h2 h3=>?_⟩,fun y c h=>⟨_,x.cell y c h⟩,e0.hok.fresh (PK _),fun y c h=>?_,fun p hp=>absurd (show p∈([]:List (Addr × Tq)) from hp) (by simp),e0.hok.kept hk,?_⟩
 ·exact name_of_addr x.apart (RN h1) (RN h2)
 ·have hy:scope.names.lookup y=some .cell∨scope.names.lookup y=some .free:=hy
  rcases hy with hy | hy
  ·exact wu hy
  ·exact absurd rfl (S.nofree _ (RN hy))
 ·exact UL (x.above y c (RN h))
 ·have hi:i < vs.length:=by
   unfold start at h2
   by_cases hi:i < vs.length
   ·exact hi
   ·rw[V5 (by simpa using hi)] at h2
    rw[TQ] at h2
    split at h2 <;> cases h2
  have ha:vs[i]? = some v:=by
   unfold start at h2
   rw[List.getElem?_append_left (by simpa using hi),Qj] at h2
   cases e:vs[i]? with
   | none=>rw[e] at h2; cases h2
   | some a=>rw[e] at h2; cases h2; rfl
  obtain⟨u,hu,rv⟩:=r.get ha
  have hp:ps[i]? = some y:=by
   rw[← S.pre,List.getElem?_take_of_lt (by lia)]; exact h1
  have ndP:ps.Nodup:=by rw[← S.pre]; exact S.nd.sublist (List.take_sublist _ _)
  refine⟨u,rv,?_⟩
  rcases S.par y (Qu hp) with k | k
  ·exact .inl ⟨k,uh ndP hp hu k⟩
  ·obtain⟨c,e⟩:=wu (n:=s.heap.objs.size+1) k
   refine .inr ⟨.inl k,c,e,?_⟩
   have q:=x.cell y c e
   rw[rO ndP hp hu (by show scope.names.lookup y≠_; rw[k]; decide)] at q
   exact q
 ·exact e0.hok.fresh (UL (x.above y c (RN h)))
 ·unfold start
  show _=N.length
  rw[Qf,Pq,Rf]
  lia
theorem Nz {CX:CXT} {P:Qt} {w:QF} {K:Qe} {mg:Rr->Option Value} {base:Q7} {k:Nat} {f:Addr} {name qual:Rr} {params:Arguments} {body:List Stmt} {scope:Ve} {dV kV doc pm cdv ct oc:Value} {an od:Option Addr}
  {osl:Array (Option Value)} {N ps:List Rr} {sp:Sp} (lk:K.lookup f=some ⟨oc,od,.func (Vf name qual params body scope dV kV doc pm an cdv ct),osl⟩) (hcd:WN K cdv qual=true) (S:aX N ps scope)
  (len:∀ vs H Q E,sp vs H Q E->vs.length=ps.length)
  (hbody:∀ (A:QG) (outer:List Env) (s:Pu) (H:Hp) (vs:List V) (Q:VK) (E:XK),oG k (A.deeper (W6 qual scope s.heap.objs.size f cdv))->sp vs H Q E →
   ∃ t,PSs (Kg CX P w K mg base N qual scope f cdv A outer s H E) body t/\t { nx:=fun _ H'=>Q .non H',rt:=Q } (start N vs) H) :
  eX P w K mg base CX (k+1) f (Vf name qual params body scope dV kV doc pm an cdv ct) ps sp:=by
 refine⟨len,fun A outer s H args us vs Q E hr e0 hb r hsp=>?_⟩
 have hl:=len _ _ _ _ hsp
 have KX:K.In s.heap:=e0.mod.kin.keeps fun b o e=>(e0.bs b o e).1
 have lim:s.heap.NoLimit:=e0.mod.nolimit.keeps fun b o e=>(e0.bs b o e).1
 have hkind:∀ y∈ps.zip us,scope.names.lookup y.1=some .local∨(scope.names.lookup y.1=some .cell/\((cellsFrom (s.heap.objs.size+1) scope.names []).lookup y.1).isSome=true):=fun⟨n,v⟩ hy=>by
  rcases S.par n (X3 hy).1 with q | q
  ·exact .inl q
  ·exact .inr ⟨q,PySem.W.cellsFrom_some _ _ _ (.inl q)⟩
 refine codeAny_call_function hr.depth (KX _ _ lk) rfl S.co S.gen rfl (PySem.W.codeRec_of KX hcd) (hb _ _ _ _ ?_)
 refine wpAny_newFunctionEnv_cells S.kind hkind fun env he s1 x=>?_
 subst he
 refine⟨lim.keeps x.toInCall.keep,codeAny_func ?_⟩
 obtain⟨t,ht,hq⟩:=hbody A outer s H vs Q E (hr.deeper _) hsp
 have I:Inv (Kg CX P w K mg base N qual scope f cdv A outer s H E) [] (start N vs) H s1:=Af S hr.hd e0 hl r x
 refine Sv (ht [] s1 (start N vs) H _ I hq) (fun fl s' hs=>?_) fun e s' hs=>hs
 have fin:∀ {σ':St} {H':Hp} {v:V} {u:Value},Inv (Kg CX P w K mg base N qual scope f cdv A outer s H E) [] σ' H' s'->RelV v u->Q v H'->CE outer P w H s Q u s' :=
  fun {σ' H' v u} J rv q=>⟨v,H',J.os,J.bare,J.base,J.hok,rv,q⟩
 cases fl with
 | ret u =>
  obtain⟨v,σ',H',J,rv,q⟩:=hs
  exact fin J rv q
 | next =>
  obtain⟨σ',H',J,q⟩:=hs
  exact fin (v:=V.non) (u:=QT) J rfl q
 | brk =>
  obtain⟨_,_,_,q⟩:=hs
  exact Ux q
 | cont =>
  obtain⟨_,_,_,q⟩:=hs
  exact Ux q
end L2
namespace L2
open PySem PySem.Spec PyProof.Rows
section
variable {X:Cx} {x:Rr} {p pos:Vk} {e:Expr} {es:List Expr} {t:TA} {id T:String} {r:List V->Hp->VK->Prop}
def tCB (r:List V->Hp->VK->Prop) (t:TA):TE:=fun σ H Q=>t σ H fun vs H1=>r vs H1 Q
theorem aK (hc:ik X (.builtin id) r) (hg:Gl X x) (hm:X.mg x=none) (hv:QZ x=some (.builtin id)) (ha:PA X (e::es) t) (hn:x≠"__name__":=by decide) (hdb:(x == ("__debug__" : Rr))=false:=by decide)
  (he:Qv (e::es) X.env=(false,S6 e X.env)::Qv es X.env:=by rfl) (hpl:(Ul pos (Qv es X.env)).any (·.1)=false:=by rfl):PE X (.Call (.Name x p) (e::es) [] pos) (tCB r t):=by
 intro pins s σ H Q I h
 refine Sh (fM I hg hm hv ?_ hn hdb)
 exact XD (thn (ha pos pins s σ H _ I h) fun us s1 ⟨vs,H1,I1,r1,q1⟩=>hc pins s1 σ H1 vs us Q I1 r1 q1) he hpl
theorem bG (hc:ik X (.type T) r) (hg:Gl X x) (hm:X.mg x=none) (hv:QZ x=some (.type T)) (ha:PA X (e::es) t) (hn:x≠"__name__":=by decide) (hdb:(x == ("__debug__" : Rr))=false:=by decide)
  (he:Qv (e::es) X.env=(false,S6 e X.env)::Qv es X.env:=by rfl) (hpl:(Ul pos (Qv es X.env)).any (·.1)=false:=by rfl):PE X (.Call (.Name x p) (e::es) [] pos) (tCB r t):=by
 intro pins s σ H Q I h
 refine Sh (fM I hg hm hv ?_ hn hdb)
 exact Q5 (thn (ha pos pins s σ H _ I h) fun us s1 ⟨vs,H1,I1,r1,q1⟩=>hc pins s1 σ H1 vs us Q I1 r1 q1) he hpl
end
end L2
namespace HT
open PySem PyProof.Rows
def lexLt:List Int->List Int->Bool
 | [],[]=>false
 | [],_::_=>true
 | _::_,[]=>false
 | x::xs,y::ys=>if x=y then lexLt xs ys else decide (x < y)
theorem iI (x y:Int) (xs ys:List Int):lexLt (x::xs) (y::ys)=if x=y then lexLt xs ys else decide (x < y):=rfl
theorem oM (y:Int) (ys:List Int):lexLt [] (y::ys)=true:=rfl
theorem oK (x:Int) (xs:List Int):lexLt (x::xs) []=false:=rfl
section
open PySem.SeqAt
open PySem.AutoSeq1 (wpAny_loadPart')
open PySem.MeetsSeq PySem.MeetsSeq2 PySem.MeetsSeq3
end
section
variable {prog:Qt} {w:QF} {A:QG} {E:Value->Pu->Prop} {s:Pu}
theorem J0 {t b:Addr} {vs ws:List Value} {Q:Value->Pu->Prop} (ht:IsTup s.heap t vs.toArray) (hb:IsTup s.heap b ws.toArray) (hv:vs≠[])
  (h1:ws=[]->Q (.ref t) s) (h2:ws≠[]->Q (.ref s.heap.objs.size) { s with heap:=s.heap.push { cls:=.type "tuple",data:=.seq (vs++ws).toArray } })
  (hsz:vs.length+ws.length<=sizeLine):PX (Qo prog w) A (Ut .Add (.ref t) (.ref b)) Q E s:=by
 obtain⟨⟨cls,dd,data,sl⟩,ho,hc,n,hd⟩:=id ht
 obtain⟨⟨cls2,dd2,data2,sl2⟩,ho2,hc2,n2,hd2⟩:=id hb
 simp only at hc hd hc2 hd2
 subst hc hd hc2 hd2
 have e:vs.toArray++ws.toArray=(vs++ws).toArray:=by simp
 by_cases hw:ws=[]
 ·exact concat_meets ⟨_,ho,rfl⟩ ⟨_,ho2,rfl⟩ Xy seq_tuple_add Wu Wl (Wf _ _)
   (tuple_addW1 t b vs.toArray ws.toArray n n2 dd dd2 sl sl2 (by simpa using hv) (by simp [hw])) ⟨ho,ho2,h1 hw⟩
 ·refine concat_meets ⟨_,ho,rfl⟩ ⟨_,ho2,rfl⟩ Xy seq_tuple_add Wu Wl (Wf _ _)
   (tuple_addW2 t b vs.toArray ws.toArray n n2 dd dd2 sl sl2 (by simpa using hv) (by simpa using hw) (by rw[P0,P0]; exact hsz)) ⟨ho,ho2,?_⟩
  rw[e]
  exact h2 hw
def sIx (n d:Nat):Option Int->Nat
 | none=>d
 | some v=>if v < 0 then (v+(n:Int)).toNat else min v.toNat n
theorem KR (n d:Nat) (hd:d<=n) (o:Option Int):sIx n d o<=n:=by
 cases o with
 | none=>exact hd
 | some v =>
  show (if v < 0 then (v+(n:Int)).toNat else min v.toNat n)<=n
  by_cases hv:v < 0
  ·rw[if_pos hv]; lia
  ·rw[if_neg hv]; exact Nat.min_le_right _ _
theorem Dr (v:Int) (n d:Nat):(if v < 0 then max (v+(n:Int)) 0 else min v (n:Int))=((sIx n d (some v):Nat):Int):=by
 show (if v < 0 then max (v+(n:Int)) 0 else min v (n:Int))=(((if v < 0 then (v+(n:Int)).toNat else min v.toNat n):Nat):Int)
 by_cases hv:v < 0
 ·simp only[if_pos hv]; lia
 ·simp only[if_neg hv]; lia
theorem yf (lo hi:Option Int) (n:Nat):V9 lo hi 1 (n:Int)=(((sIx n 0 lo:Nat):Int),((sIx n n hi:Nat):Int)):=by
 have h1:¬ ((1:Int) < 0):=by lia
 unfold V9
 simp only[h1,if_false]
 refine Prod.ext ?_ ?_
 ·cases lo with
  | none=>rfl
  | some v=>exact Dr v n 0
 ·cases hi with
  | none=>rfl
  | some v=>exact Dr v n n
theorem yD (i j:Nat):U0 (i:Int) (j:Int) 1=j - i:=by
 unfold U0
 have h1:(1:Int) > 0:=by lia
 simp only[h1,if_true,Int.ediv_one]
 split <;> lia
theorem pC {v:Value} {o:Option Int} {Q:Option Int->Pu->Prop} (p:XH v o) (h:Q o s):PX (Qo prog w) A (Builtin.Slice.slicePartIndex v) Q E s:=by
 cases p with
 | none=>exact slicePart_none h
 | int i t=>exact slicePart_int h
theorem lQ {sl:Addr} {vl vu:Value} {lo hi:Option Int} {n:Nat} {Q:Int × Int × Nat->Pu->Prop} (hs:s.heap.IsSliceOf sl vl vu .none) (pl:XH vl lo) (pu:XH vu hi)
  (h:Q (((sIx n 0 lo:Nat):Int),1,sIx n n hi - sIx n 0 lo) s):PX (Qo prog w) A (Builtin.Slice.sliceApplied (.ref sl) (pure (n:Int))) Q E s:=by
 obtain⟨os,hos,hcs,hds⟩:=id hs
 unfold Builtin.Slice.sliceApplied Builtin.Slice.sliceFields
 refine Pn (Pn (QS hos hds (x:=vl) rfl (Pn (QS hos hds (x:=vu) rfl (Pn (QS hos hds (x:=.none) rfl (Py ?_)))))))
 refine Pn (slicePart_none ?_)
 show PX _ _ (if ((1:Int) == 0)=true then _ else _) _ _ s
 rw[if_neg (by decide)]
 refine Pn (pC pl (Pn (pC pu (Pn (Py ?_)))))
 show PX _ _ (match V9 lo hi 1 (n:Int) with | (lo,hi)=>pure (lo,(1:Int),U0 lo hi 1)) _ _ s
 rw[yf lo hi n]
 show PX _ _ (pure (((sIx n 0 lo:Nat):Int),(1:Int),U0 ((sIx n 0 lo:Nat):Int) ((sIx n n hi:Nat):Int) 1)) _ _ s
 rw[yD]
 exact Py h
theorem FW (xs:Array Value) (i k:Nat):((PL k).filterMap fun (m:Nat)=>xs[((i:Int)+(m:Int) * 1).toNat]?).toArray=((xs.toList.drop i).take k).toArray:=by
 have e:(fun (m:Nat)=>xs[((i:Int)+(m:Int) * 1).toNat]?)=fun m=>xs[i+m]?:=by
  funext m
  have:((i:Int)+(m:Int) * 1).toNat=i+m:=by lia
  rw[this]
 rw[e]
 have:=pick_run xs i k
 rw[List.filterMap_map] at this
 have e2:((fun x=>xs[x]?) ∘ fun x=>i+x)=fun m=>xs[i+m]?:=rfl
 rw[e2] at this
 rw[this]
theorem jQ {t sl:Addr} {items:Array Value} {vl vu:Value} {lo hi:Option Int} {Q:Value->Pu->Prop} (ht:IsTup s.heap t items) (hs:s.heap.IsSliceOf sl vl vu .none) (pl:XH vl lo) (pu:XH vu hi)
  (hw:¬ (sIx items.size 0 lo=0/\sIx items.size items.size hi=items.size))
  (h:Q (.ref s.heap.objs.size) { s with heap:=s.heap.push { cls:=.type "tuple",data:=.seq ((items.toList.drop (sIx items.size 0 lo)).take (sIx items.size items.size hi - sIx items.size 0 lo)).toArray } })
  (hsz:items.size<=sizeLine):PX (Qo prog w) A (WW (.ref t) (.ref sl)) Q E s:=by
 have htake:sizeOk (.seq ((items.toList.drop (sIx items.size 0 lo)).take (sIx items.size items.size hi - sIx items.size 0 lo)).toArray):=by
  show ((items.toList.drop (sIx items.size 0 lo)).take (sIx items.size items.size hi - sIx items.size 0 lo)).toArray.size<=sizeLine
  rw[P0,Qh,Wn,Qs]
  lia
 have hj:sIx items.size items.size hi<=items.size:=KR _ _ (PK _) hi
 obtain⟨os,hos,hcs,hds⟩:=id hs
 have hTs:s.TypeIs (.ref sl) "slice":=⟨os,hos,hcs⟩
 unfold WW
 try with_reducible refine SN ?_
 first | refine Pn (Py ?_) | skip
 refine Pn (wpAny_sequenceKey ht.typeIs (by decide) ?_)
 refine Pn (QW (name:=R7 "__getitem__") ht.typeIs Xr
  (Q6 Xr ht.typeIs entry_tuple_getitem ?_ (args_tuple_getitem _ _)))
 show PX _ _ (Builtin.Tuple.tupleItemsOf (.ref t) >>= _) _ _ s
 refine Pn (tupleItemsOf_ ht ?_)
 refine Pn (wpAny_typeOf hTs ?_)
 rw[if_pos (by decide)]
 refine Pn (lQ hs pl pu ?_)
 have hno:¬ ((((sIx items.size 0 lo:Nat):Int) == 0 && (1:Int) == 1 && (sIx items.size items.size hi - sIx items.size 0 lo) == items.size)=true):=by
  intro q
  rw[Ru,Ru] at q
  have q1:((sIx items.size 0 lo:Nat):Int)=0:=eq_of_beq q.1.1
  have q2:sIx items.size items.size hi - sIx items.size 0 lo=items.size:=eq_of_beq q.2
  exact hw ⟨by lia,by lia⟩
 show PX _ _ (if (((sIx items.size 0 lo:Nat):Int) == 0 && (1:Int) == 1 && (sIx items.size items.size hi - sIx items.size 0 lo) == items.size)=true then _ else _) _ _ s
 rw[if_neg hno,FW]
 first
  | exact Pn (m:=U5 _) (QD (Py ⟨_,rfl,Py h⟩) htake)
  | exact Pn (m:=U5 _) (QD (Pn (Py (Py ⟨_,rfl,Py h⟩))) htake)
  | exact Pn (Pn (m:=U5 _) (QD (Py (Py ⟨_,rfl,Py h⟩)) htake))
  | exact Pn (Pn (m:=U5 _) (QD (Py ⟨_,rfl,Py h⟩) htake))
end
end HT
namespace L2
open PySem PySem.Spec PyProof.Rows
abbrev TO:=St->Hp->(Option Int->Hp->Prop)->Prop
def PO (X:Cx) (e:Option Expr) (t:TO):Prop :=
 ∀ (pins:List (Addr × Tq)) (s:Pu) (σ:St) (H:Hp) (Q:Option Int->Hp->Prop),Inv X pins σ H s->t σ H Q →
  PX (Qo X.prog X.w) X.A (evalPart e X.env) (fun u s'=>∃ o H',Inv X pins σ H' s'/\XH u o/\Q o H') X.xe s
def Ih:TO:=fun _ H Q=>Q none H
def Np (t:TE):TO:=fun σ H Q=>t σ H fun x H1=>∃ i,x = .int i/\Q (some i) H1
theorem intsAre_of {ns:List Int}:∀ {us:List Value},Vals (ns.map V.int) us->Ra us ns:=by
 induction ns with
 | nil=>intro us r; rw[Vg] at r; cases r; exact .nil
 | cons n ns ih =>
  intro us r
  rw[QH] at r
  cases r with
  | cons r1 r2 =>
   obtain⟨t,e⟩:=r1
   subst e
   exact .cons n t (ih r2)
section
variable {X:Cx} {e:Expr} {te:TE} {lo hi:Option Expr} {tl th:TO} {pos p2:Vk}
theorem zG:PO X none Ih:=by
 intro pins s σ H Q I h
 rw[evalPart_none]
 exact Py ⟨none,H,I,.none,h⟩
theorem zc (h:PE X e te):PO X (some e) (Np te):=by
 intro pins s σ H Q I hw
 rw[evalPart_some]
 refine thn (h pins s σ H _ I hw) fun u s1 ⟨x,H1,I1,r1,q1⟩=>?_
 obtain⟨i,rfl,q⟩:=q1
 obtain⟨t,rfl⟩:=r1
 exact⟨some i,H1,I1,.int i t,q⟩
def SlR (X:Cx) (r:V->Option Int->Option Int->Hp->VK->Prop):Prop :=
 ∀ (pins:List (Addr × Tq)) (s:Pu) (σ:St) (H:Hp) (x:V) (v vl vu:Value) (lo hi:Option Int) (sl:Addr) (Q:VK),Inv X pins σ H s->RelV x v->s.heap.IsSliceOf sl vl vu .none->XH vl lo->XH vu hi->r x lo hi H Q →
  ∃ T id,typeLookup (.type T) "__getitem__" = pure (some (.builtin id))/\s.TypeIs v T/\PX (Qo X.prog X.w) X.A (WW v (.ref sl)) (EP X pins σ Q) X.xe s
def tSl (r:V->Option Int->Option Int->Hp->VK->Prop) (te:TE) (tl th:TO):TE:=fun σ H Q=>te σ H fun x H1=>tl σ H1 fun l H2=>th σ H2 fun u H3=>r x l u H3 Q
theorem wF {r:V->Option Int->Option Int->Hp->VK->Prop} (hr:SlR X r) (he:PE X e te) (hl:PO X lo tl) (hu:PO X hi th):PE X (.Subscript e (.Slice lo hi none p2) pos) (tSl r te tl th):=by
 intro pins s σ H Q I h
 refine Subscript_ (thn (he pins s σ H _ I h) fun v s1 ⟨x,H1,I1,r1,q1⟩=>?_)
 refine wpAny_Slice (thn (hl pins s1 σ H1 _ I1 q1) fun vl s2 ⟨l,H2,I2,pl,q2⟩=>thn (hu pins s2 σ H2 _ I2 q2) fun vu s3 ⟨u,H3,I3,pu,q3⟩=>?_)
 rw[evalPart_none]
 refine Py ?_
 have I4:Inv X pins σ H3 { s3 with heap:=s3.heap.push { cls:=.type "slice",data:=.fields #[vl,vu,.none] } }:=I3.kept (t':=s3.toks) fun b ob q=>Pr _ q
 obtain⟨T,id,hT,ht,hg⟩:=hr pins { s3 with heap:=s3.heap.push { cls:=.type "slice",data:=.fields #[vl,vu,.none] } } σ H3 x v vl vu l u s3.heap.objs.size Q I4 r1 (Heap.IsSliceOf.new ..) pl pu q3
 show PX (Qo X.prog X.w) X.A (subscriptTail e (.Slice lo hi none p2) v (.ref s3.heap.objs.size)) (EP X pins σ Q) X.xe { s3 with heap:=s3.heap.push { cls:=.type "slice",data:=.fields #[vl,vu,.none] } }
 exact tail_any (ops:=[.ref s3.heap.objs.size,v]) ht hT hg (by with_unfolding_all rfl)
def Ds (xs:List V) (lo hi:Option Int):List V:=(xs.drop (HT.sIx xs.length 0 lo)).take (HT.sIx xs.length xs.length hi - HT.sIx xs.length 0 lo)
theorem nj (xs:List V) (lo hi:Option Int):(Ds xs lo hi).length<=xs.length:=by
 unfold Ds
 rw[Qh,Wn]
 lia
inductive Lk (K:Qe) (x:V) (lo:Option Int) (hi:Option Int) (H:Hp) (Q:VK):Prop where
 | mk (a:Addr) (xs:List V) (z0:x = .ref a) (z1:SqT K H a xs) (z2:¬ (HT.sIx xs.length 0 lo=0/\HT.sIx xs.length xs.length hi=xs.length)) (z3:∀ p,H p=none->Q (.ref p) (upd H p (.tup (Ds xs lo hi)))):Lk K x lo hi H Q
def N8 (K:Qe):V->Option Int->Option Int->Hp->VK->Prop:=fun x lo hi H Q=>Lk K x lo hi H Q
theorem Ms:SlR X (N8 X.K):=by
 intro pins s σ H x v vl vu lo hi sl Q I rx hs pl pu h
 obtain⟨a,xs,rfl,hx,hw,q⟩:=h
 cases rx
 obtain⟨its,r,ht,hz⟩:=I.tuple hx
 have hlen:its.toArray.size=xs.length:=by rw[P0]; exact r.length.symm
 refine⟨"tuple",_,PyProof.Rows.slot_tuple_getitem.lookup,ht.typeIs,?_⟩
 refine HT.jQ ht hs pl pu (by rw[hlen]; exact hw) ?_ (by rw[hlen]; exact hz)
 rw[hlen]
 refine⟨.ref s.heap.objs.size,_,I.laid (t':=s.toks) (o:=.tup (Ds xs lo hi)) (fun b ob q=>Pr _ q) (PK _) ?_,rfl,q _ (I.hok.fresh (PK _))⟩
 exact⟨Q0 (nj xs lo hi) hz,_,(r.drop (HT.sIx xs.length 0 lo)).take (HT.sIx xs.length xs.length hi - HT.sIx xs.length 0 lo),IsTup.new _ _⟩
def NK (K:Qe):R2:=fun x y H Q=>∃ a b xs ys,x = .ref a/\y = .ref b/\SqT K H a xs/\SqT K H b ys/\xs≠[]/\xs.length+ys.length<=sizeLine ∧
 (ys=[]->Q (.ref a) H)/\(ys≠[]->∀ p,H p=none->Q (.ref p) (upd H p (.tup (xs++ys))))
theorem Vals.qF {xs:List V} {us:List Value} (r:Vals xs us):us=[] ↔ xs=[]:=by
 cases r with
 | nil=>simp
 | cons _ _=>simp
theorem Jy:OpR X (Ut .Add) (NK X.K):=by
 intro pins s σ H x y v u Q I rx ry h
 obtain⟨a,b,xs,ys,rfl,rfl,ha,hb,hx,hz,q1,q2⟩:=h
 cases rx
 cases ry
 obtain⟨its,r1,p1,_⟩:=I.tuple ha
 obtain⟨its2,r2,p2,_⟩:=I.tuple hb
 refine HT.J0 p1 p2 (fun z=>hx (r1.qF.mp z)) (fun z=>⟨.ref a,H,I,rfl,q1 (r2.qF.mp z)⟩) (fun z=>?_) (by rw[← r1.length,← r2.length]; exact hz)
 refine⟨.ref s.heap.objs.size,_,I.laid (t':=s.toks) (o:=.tup (xs++ys)) (fun b ob q=>Pr _ q) (PK _) ?_,rfl,q2 (fun w=>z (r2.qF.mpr w)) _ (I.hok.fresh (PK _))⟩
 exact⟨by rw[Qf]; exact hz,_,r1.append r2,IsTup.new _ _⟩
end
end L2
namespace L2
open PySem PySem.Spec PyProof.Rows
def ixN (n:Nat) (i:Int):Option Nat:=if 0<=i then (if i < n then some i.toNat else none) else if -(n:Int)<=i then some (i+n).toNat else none
def atI {α:Type} (xs:List α) (i:Int):Option α:=(ixN xs.length i).bind fun j=>xs[j]?
theorem JM {n:Nat} {i:Int} {j:Nat} (h:ixN n i=some j):Xx i n=some j/\j < n/\-(n:Int)<=i/\i < n:=by
 unfold ixN at h
 by_cases h0:0<=i
 ·rw[if_pos h0] at h
  by_cases h1:i < n
  ·rw[if_pos h1] at h
   have e:i.toNat=j:=QC h
   exact⟨by rw[seqIndex_of h0 h1,e],by lia,by lia,h1⟩
  ·rw[if_neg h1] at h; cases h
 ·rw[if_neg h0] at h
  by_cases h1 : -(n:Int)<=i
  ·rw[if_pos h1] at h
   have e:(i+n).toNat=j:=QC h
   exact⟨by rw[seqIndex_neg (by lia) h1,e],by lia,h1,by lia⟩
  ·rw[if_neg h1] at h; cases h
theorem uP {α:Type} {xs:List α} {i:Int} {v:α} (h:atI xs i=some v):∃ j,Xx i xs.length=some j/\xs[j]? = some v/\j < xs.length/\-(xs.length:Int)<=i/\i < xs.length:=by
 unfold atI at h
 cases e:ixN xs.length i with
 | none=>rw[e] at h; cases h
 | some j =>
  rw[e] at h
  obtain⟨h1,h2,h3,h4⟩:=JM e
  exact⟨j,h1,h,h2,h3,h4⟩
theorem iB {α:Type} {xs:List α} {j:Nat} {v:α} (h:xs[j]? = some v):atI xs (j:Int)=some v:=by
 have hj:j < xs.length:=(List.getElem?_eq_some_iff.mp h).1
 have e:ixN xs.length (j:Int)=some j:=by
  unfold ixN
  rw[if_pos (by lia),if_pos (by lia)]; simp
 unfold atI; rw[e]; exact h
theorem Ge {α:Type} (xs:List α) (v:α):atI (xs++[v]) (-1)=some v:=by
 have hl:(xs++[v]).length=xs.length+1:=by simp
 have e:ixN (xs++[v]).length (-1)=some xs.length:=by
  unfold ixN
  rw[hl,if_neg (by decide),if_pos (by lia)]
  congr 1
  lia
 unfold atI
 rw[e]
 show (xs++[v])[xs.length]? = some v
 simp
def Jw (b:Expr):Prop:=∀ o i,XQ b false o i=operate [o,i] (WW o i)
def IxR (X:Cx) (r:R2):Prop :=
 ∀ (value slice:Expr) (pins:List (Addr × Tq)) (s:Pu) (σ:St) (H:Hp) (x y:V) (v u:Value) (Q:VK),Inv X pins σ H s->RelV x v->RelV y u->r x y H Q →
  XQ slice false v u=operate [v,u] (WW v u)->PX (Qo X.prog X.w) X.A (subscriptTail value slice v u) (EP X pins σ Q) X.xe s
def MtR (X:Cx) (id:String) (r:V->List V->Hp->VK->Prop):Prop :=
 ∀ (pins:List (Addr × Tq)) (s:Pu) (σ:St) (H:Hp) (x:V) (xs:List V) (v:Value) (us:List Value) (Q:VK),Inv X pins σ H s->RelV x v->Vals xs us->r x xs H Q →
  PX (Qo X.prog X.w) X.A (call (.builtin id) (v::us)) (EP X pins σ Q) X.xe s
section
variable {X:Cx} {a b:Expr} {ta tb:TE} {pos:Vk}
theorem IxR.or {r r':R2} (h:IxR X r) (h':IxR X r'):IxR X (fun x y H Q=>r x y H Q∨r' x y H Q):=by
 intro value slice pins s σ H x y v u Q I rx ry q hs
 rcases q with q | q
 ·exact h value slice pins s σ H x y v u Q I rx ry q hs
 ·exact h' value slice pins s σ H x y v u Q I rx ry q hs
theorem bh {r:R2} (hr:IxR X r) (ha:PE X a ta) (hb:PE X b tb) (hs:Jw b):PE X (.Subscript a b pos) (tOp r ta tb):=by
 intro pins s σ H Q I h
 exact Subscript_ (Ni ha hb I h fun v u s2 x y H2 I2 rx ry q=>hr a b pins s2 σ H2 x y v u Q I2 rx ry q (hs _ _))
inductive Mr (K:Qe) (x:V) (y:V) (H:Hp) (Q:VK):Prop where
 | mk (p:Addr) (xs:List V) (i:Int) (v:V) (z0:x = .ref p) (z1:y = .int i) (z2:SqL K H p xs) (z3:atI xs i=some v) (z4:Q v H):Mr K x y H Q
def fX (K:Qe):R2:=fun x y H Q=>Mr K x y H Q
inductive KC (K:Qe) (x:V) (y:V) (H:Hp) (Q:VK):Prop where
 | mk (p:Addr) (xs:List V) (i:Int) (v:V) (z0:x = .ref p) (z1:y = .int i) (z2:SqT K H p xs) (z3:atI xs i=some v) (z4:Q v H):KC K x y H Q
def jN (K:Qe):R2:=fun x y H Q=>KC K x y H Q
def Oe:R2:=fun x y H Q=>∃ z i c,x = .str z/\y = .int i/\z.length<=sizeLine/\atI z.cps.toList i=some c/\Q (.str ⟨#[c]⟩) H
theorem aQ:IxR X (fX X.K):=by
 intro value slice pins s σ H x y v u Q I rx ry h hs
 obtain⟨p,xs,i,z,rfl,rfl,hq,he,q⟩:=h
 cases rx
 obtain⟨t,rfl⟩:=ry
 obtain⟨its,r,pl,hz⟩:=I.list hq
 obtain⟨j,h1,h2,h3,h4,h5⟩:=uP he
 obtain⟨w,ew,rw'⟩:=r.get h2
 have hl:=r.length
 have hn:=sE
 have fin:EP X pins σ Q w s:=⟨z,H,I,rw',q⟩
 by_cases h0:0<=i
 ·have hj:i.toNat=j:=by
   rw[seqIndex_of h0 h5] at h1
   exact QC h1
  exact item_listR pl.isList h0 (by lia) (by rw[hj]; simpa using ew) fin hs
 ·have hj:(i+(its.toArray.size:Int)).toNat=j:=by
   rw[seqIndex_neg (by lia) h4] at h1
   rw[P0,← hl]
   exact QC h1
  exact subscriptTail_builtinR (x:=w) pl.isList.typeIs slot_list_getitem.lookup
   (wpAny_getItem_list_neg (Q:=fun r s'=>r=w/\EP X pins σ Q r s') pl.isList (by lia) (by rw[P0] <;> lia) (by lia) (by rw[hj]; simpa using ew) ⟨rfl,fin⟩) hs
theorem bW:IxR X (jN X.K):=by
 intro value slice pins s σ H x y v u Q I rx ry h hs
 obtain⟨p,xs,i,z,rfl,rfl,hq,he,q⟩:=h
 cases rx
 obtain⟨t,rfl⟩:=ry
 obtain⟨its,r,pl,hz⟩:=I.tuple hq
 obtain⟨j,h1,h2,h3,h4,h5⟩:=uP he
 obtain⟨w,ew,rw'⟩:=r.get h2
 have hl:=r.length
 have hn:=sE
 have fin:EP X pins σ Q w s:=⟨z,H,I,rw',q⟩
 exact subscriptTail_builtinR (x:=w) pl.typeIs slot_tuple_getitem.lookup
  (getItem_tuple (j:=j) (Q:=fun r s'=>r=w/\EP X pins σ Q r s') pl (by lia) (by lia) (by rw[P0,← hl]; exact h1) (by simpa using ew) ⟨rfl,fin⟩) hs
theorem Lp:IxR X Oe:=by
 intro value slice pins s σ H x y v u Q I rx ry h hs
 obtain⟨z,i,c,rfl,rfl,hz,he,q⟩:=h
 obtain⟨t,rfl⟩:=rx
 obtain⟨t',rfl⟩:=ry
 obtain⟨j,h1,h2,h3,h4,h5⟩:=uP he
 have hl:z.cps.toList.length=z.length:=by simp [Str.length]
 rw[hl] at h1 h4 h5
 have hn:=sE
 exact tail_any (typeIs_str s z t) slot_str_getitem.lookup (getItem_str (c:=c) (by
  have e1:decide (i < -(2 ^ 63:Int))=false:=decide_eq_false (by lia)
  have e2:decide (i ≥ 2 ^ 63)=false:=decide_eq_false (by lia)
  rw[e1,e2,Bool.or_false]) (by rw[h1]; simpa using h2) ⟨.str ⟨#[c]⟩,H,I.tok _,⟨_,rfl⟩,q⟩) hs
def rIx (K:Qe):R2:=fun x y H Q=>fX K x y H Q∨jN K x y H Q∨Oe x y H Q
theorem HH:IxR X (rIx X.K):=aQ.or (bW.or Lp)
theorem rF (lo hi:Option Int) (n:Nat):(Vs lo hi none n).1=((HT.sIx n 0 lo:Nat):Int)/\(Vs lo hi none n).2.1=((HT.sIx n n hi:Nat):Int)/\(Vs lo hi none n).2.2=1:=by
 refine⟨?_,?_,rfl⟩
 ·cases lo with
  | none=>simp [Vs,HT.sIx]
  | some i =>
   simp only[Vs,HT.sIx,Option.getD_none,show (1:Int) > 0 by decide,if_true]
   by_cases h:i < 0
   ·simp only[h,if_true] <;> lia
   ·simp only[h,if_false] <;> lia
 ·cases hi with
  | none=>simp [Vs,HT.sIx]
  | some i =>
   simp only[Vs,HT.sIx,Option.getD_none,show (1:Int) > 0 by decide,if_true]
   by_cases h:i < 0
   ·simp only[h,if_true] <;> lia
   ·simp only[h,if_false] <;> lia
theorem qy (its:List Value) (lo hi:Option Int):slicePick its.toArray lo hi none=((its.drop (HT.sIx its.length 0 lo)).take (HT.sIx its.length its.length hi - HT.sIx its.length 0 lo)).toArray:=by
 obtain⟨h1,h2,h3⟩:=rF lo hi its.toArray.size
 unfold slicePick
 rw[h1,h2,h3]
 simp only[sliceRange_one,pick_run,P0] <;> rfl
inductive Ml (K:Qe) (x:V) (lo:Option Int) (hi:Option Int) (H:Hp) (Q:VK):Prop where
 | mk (a:Addr) (xs:List V) (z0:x = .ref a) (z1:SqL K H a xs) (z2:∀ p,H p=none->Q (.ref p) (upd H p (.lst (Ds xs lo hi)))):Ml K x lo hi H Q
def Oa (K:Qe):V->Option Int->Option Int->Hp->VK->Prop:=fun x lo hi H Q=>Ml K x lo hi H Q
theorem Ja:SlR X (Oa X.K):=by
 intro pins s σ H x v vl vu lo hi sl Q I rx hs pl pu h
 obtain⟨a,xs,rfl,hx,q⟩:=h
 cases rx
 obtain⟨its,r,ht,hz⟩:=I.list hx
 have hlen:=r.length
 refine⟨"list",_,slot_list_getitem.lookup,ht.isList.typeIs,?_⟩
 refine wpAny_getItem_list_slice ht.isList hs pl pu .none (by simp) ?_ (by rw[P0] <;> lia)
 rw[qy,← hlen]
 refine⟨.ref s.heap.objs.size,_,I.laid (t':=s.toks) (o:=.lst (Ds xs lo hi)) (fun b ob q=>Pr _ q) (PK _) ?_,rfl,q _ (I.hok.fresh (PK _))⟩
 exact⟨Q0 (nj xs lo hi) hz,_,0,(r.drop (HT.sIx xs.length 0 lo)).take (HT.sIx xs.length xs.length hi - HT.sIx xs.length 0 lo),PB _ rfl⟩
def qw:V->Bool
 | .non=>true
 | .bl _=>true
 | .int _=>true
 | .str _=>true
 | _=>false
def eqV:V->V->Bool
 | .non,.non=>true
 | .bl a,.bl b=>a == b
 | .bl a,.int b=>(if a then 1 else 0) == b
 | .int a,.bl b=>a == (if b then 1 else 0)
 | .int a,.int b=>a == b
 | .str a,.str b=>a == b
 | _,_=>false
theorem Kq {A:QG} {s:Pu} {y x:V} {u v:Value} (ry:RelV y u) (rx:RelV x v) (fy:qw y=true) (fx:qw x=true):SeqAt.EqAt A s u v (eqV y x):=by
 cases y with
 | non =>
  cases ry
  cases x with
  | non=>cases rx; exact SeqAt.EqAt.same _
  | bl b=>cases rx; exact SeqAt.EqAt.none_bool b
  | int b=>obtain⟨t,rfl⟩:=rx; exact SeqAt.EqAt.none_int b t
  | str b=>obtain⟨t,rfl⟩:=rx; exact SeqAt.EqAt.none_str b t
  | _=>exact absurd (show false=true from fx) PQ
 | bl a =>
  cases ry
  cases x with
  | non=>cases rx; exact SeqAt.EqAt.bool_none a
  | bl b=>cases rx; exact SeqAt.EqAt.bool_bool a b
  | int b=>obtain⟨t,rfl⟩:=rx; exact SeqAt.EqAt.bool_int a b t
  | str b=>obtain⟨t,rfl⟩:=rx; exact SeqAt.EqAt.bool_str a b t
  | _=>exact absurd (show false=true from fx) PQ
 | int a =>
  obtain⟨t',rfl⟩:=ry
  cases x with
  | non=>cases rx; exact SeqAt.EqAt.int_none a t'
  | bl b=>cases rx; exact SeqAt.EqAt.int_bool a t' b
  | int b=>obtain⟨t,rfl⟩:=rx; exact W7 a t' b t
  | str b=>obtain⟨t,rfl⟩:=rx; exact SeqAt.EqAt.int_str a t' b t
  | _=>exact absurd (show false=true from fx) PQ
 | str a =>
  obtain⟨t',rfl⟩:=ry
  cases x with
  | non=>cases rx; exact SeqAt.EqAt.str_none a t'
  | bl b=>cases rx; exact SeqAt.EqAt.str_bool a t' b
  | int b=>obtain⟨t,rfl⟩:=rx; exact SeqAt.EqAt.str_int a t' b t
  | str b=>obtain⟨t,rfl⟩:=rx; exact SeqAt.EqAt.str_str a t' b t
  | _=>exact absurd (show false=true from fx) PQ
 | _=>exact absurd (show false=true from fy) PQ
def eqU (x:V) (u:Value):Bool:=match u with
 | .none=>eqV .non x
 | .bool b=>eqV (.bl b) x
 | .int i _=>eqV (.int i) x
 | .str z _=>eqV (.str z) x
 | _=>false
theorem Hn {x y:V} {u:Value} (r:RelV y u) (f:qw y=true):eqU x u=eqV y x:=by
 cases y with
 | non=>cases r; rfl
 | bl b=>cases r; rfl
 | int i=>obtain⟨t,rfl⟩:=r; rfl
 | str z=>obtain⟨t,rfl⟩:=r; rfl
 | _=>exact absurd (show false=true from f) PQ
theorem uN {x:V}:∀ {xs:List V} {us:List Value},Vals xs us->xs.all qw=true->us.any (eqU x)=xs.any fun y=>eqV y x
 | _,_,.nil,_=>rfl
 | y::xs,u::us,.cons r t,f=>by
  rw[Vr,Ru] at f
  rw[Vq,Vq,Hn r f.1,uN t f.2]
theorem pX {A:QG} {s:Pu} {x:V} {v:Value} (rx:RelV x v) (fx:qw x=true):∀ {xs:List V} {us:List Value},Vals xs us->xs.all qw=true->∀ u∈us,SeqAt.EqAt A s u v (eqU x u)
 | _,_,.nil,_=>fun u hu=>by cases hu
 | y::xs,u::us,.cons r t,f=>fun u' hu=>by
  rw[Vr,Ru] at f
  rcases List.mem_cons.mp hu with rfl | hu
  ·rw[Hn r f.1]; exact Kq r rx f.1 fx
  ·exact pX rx fx t f.2 u' hu
def inV (x:V) (xs:List V):Bool:=xs.any fun y=>eqV y x
inductive Og (K:Qe) (neg:Bool) (x:V) (y:V) (H:Hp) (Q:VK):Prop where
 | mk (p:Addr) (xs:List V) (z0:y = .ref p) (z1:(SqL K H p xs∨SqT K H p xs)) (z2:qw x=true) (z3:xs.all qw=true) (z4:Q (.bl (if neg then !inV x xs else inV x xs)) H):Og K neg x y H Q
def rIn (K:Qe) (neg:Bool):R2:=fun x y H Q=>Og K neg x y H Q
theorem jF:OpR X (S7 .In) (rIn X.K false):=by
 intro pins s σ H x y v u Q I rx ry h
 obtain⟨p,xs,rfl,hq,fx,fs,q⟩:=h
 cases ry
 rcases hq with hq | hq
 ·obtain⟨its,r,pl,hz⟩:=I.list hq
  refine SeqAt.in_listAt (eqU x) pl.isList (fun w hw=>pX rx fx r fs w (by simpa using hw)) ⟨.bl _,H,I,rfl,?_⟩
  rw[show its.toArray.any (eqU x)=its.any (eqU x) by simp,uN r fs]
  exact q
 ·obtain⟨its,r,pl,hz⟩:=I.tuple hq
  refine SeqAt.in_tupleAt (eqU x) pl (fun w hw=>pX rx fx r fs w (by simpa using hw)) ⟨.bl _,H,I,rfl,?_⟩
  rw[show its.toArray.any (eqU x)=its.any (eqU x) by simp,uN r fs]
  exact q
theorem qO:ik X (.builtin "len") (fun xs H Q=>∃ p ys,xs=[.ref p]/\(SqL X.K H p ys∨SqT X.K H p ys)/\Q (.int ys.length) H):=by
 intro pins s σ H xs us Q I r h
 obtain⟨p,ys,rfl,hq,q⟩:=h
 obtain⟨u,rfl,rx⟩:=vals1 r
 cases rx
 have hn:=sE
 rcases hq with hq | hq
 ·obtain⟨its,r',pl,hz⟩:=I.list hq
  have hlen:=r'.length
  exact Calls.call_len_list pl.isList (by simp only[P0] <;> lia) ⟨.int ys.length,H,I.tok _,⟨s.toks+1,by rw[P0,hlen]⟩,q⟩
 ·obtain⟨its,r',pl,hz⟩:=I.tuple hq
  have hlen:=r'.length
  exact len_tuple pl (by simp only[P0] <;> lia) ⟨.int ys.length,H,I.tok _,⟨s.toks+1,by rw[P0,hlen]⟩,q⟩
theorem rH:ik X (.type "list") (fun xs H Q=>∃ p ys,xs=[.ref p]/\(SqL X.K H p ys∨SqT X.K H p ys)/\∀ l,H l=none->Q (.ref l) (upd H l (.lst ys))):=by
 intro pins s σ H xs us Q I r h
 obtain⟨p,ys,rfl,hq,q⟩:=h
 obtain⟨u,rfl,rx⟩:=vals1 r
 cases rx
 have fin:∀ (its:List Value),Vals ys its->ys.length<=sizeLine->∀ (h':Q7) (c':Nat),(∀ b o',s.heap.get? b=some o'->h'.get? b=some o') →
   h'.get? s.heap.objs.size=some { cls:=.type "list",dict:=none,data:=.seq its.toArray c',slots:=#[] }->EP X pins σ Q (.ref s.heap.objs.size) { s with heap:=h' }:=fun its r' hz h' c' kp e =>
  ⟨.ref s.heap.objs.size,_,I.laid (t':=s.toks) kp (PK _) (show dJ X.prog X.w _ h' _ (.lst ys) from ⟨hz,its,c',r',e⟩),rfl,q _ (I.hok.fresh (PK _))⟩
 rcases hq with hq | hq
 ·obtain⟨its,r',pl,hz⟩:=I.list hq
  have hlen:=r'.length
  obtain⟨o,ho,hc,n,hd⟩:=pl.isList
  exact call_list_seq p (.inl rfl) ho hc hd (fun h' c' kp e=>fin its r' hz h' c' kp e) (by simp only[P0] <;> lia)
 ·obtain⟨its,r',pl,hz⟩:=I.tuple hq
  have hlen:=r'.length
  obtain⟨o,ho,hc,n,hd⟩:=pl
  exact call_list_seq p (.inr rfl) ho hc hd (fun h' c' kp e=>fin its r' hz h' c' kp e) (by simp only[P0] <;> lia)
theorem pI:ik X (.type "tuple") (fun xs H Q=>∃ p ys,xs=[.ref p]/\((SqL X.K H p ys/\∀ l,H l=none->Q (.ref l) (upd H l (.tup ys)))∨(SqT X.K H p ys/\Q (.ref p) H))):=by
 intro pins s σ H xs us Q I r h
 obtain⟨p,ys,rfl,h⟩:=h
 obtain⟨u,rfl,rx⟩:=vals1 r
 cases rx
 rcases h with⟨hq,q⟩ | ⟨hq,q⟩
 ·obtain⟨its,r',pl,hz⟩:=I.list hq
  have hlen:=r'.length
  refine call_tuple_list pl.isList (fun h' kp=>?_) (by simp only[P0] <;> lia)
  have I1:Inv X pins σ H { s with heap:=h' }:=I.kept (t':=s.toks) kp
  have I2:Inv X pins σ (upd H h'.objs.size (.tup ys)) { s with heap:=h'.push { cls:=.type "tuple",data:=.seq its.toArray } } :=
   I1.laid (t':=s.toks) (fun b o e=>Pr _ e) (PK _) (show dJ X.prog X.w _ _ _ (.tup ys) from ⟨hz,its,r',IsTup.new _ _⟩)
  exact⟨.ref h'.objs.size,_,I2,rfl,q _ (I1.hok.fresh (PK _))⟩
 ·obtain⟨its,r',pl,hz⟩:=I.tuple hq
  exact call_tuple_same pl ⟨.ref p,H,I,rfl,q⟩
def tyV (K:Qe) (T:String) (x:V) (H:Hp):Prop:=match x with
 | .str _=>T = "str"
 | .int _=>T = "int"
 | .ref p=>(T = "list"/\∃ xs,SqL K H p xs)∨(T = "tuple"/\∃ o,K.lookup p=some o/\o.cls = .type "tuple"/\o.dict=none) ∨
   (T = "dict"/\((∃ kvs,H p=some (.dK kvs))∨∃ kvs,H p=some (.dT kvs)))∨(T = "set"/\∃ S n,H p=some (.set S n))
 | _=>False
theorem G9 {pins:List (Addr × Tq)} {σ:St} {H:Hp} {s:Pu} {T:String} {x:V} {v:Value} (I:Inv X pins σ H s) (r:RelV x v) (ty:tyV X.K T x H) :
  s.TypeIs v T/\∀ a,v = .ref a->∃ ob,s.heap.get? a=some ob/\ob.dict=none:=by
 cases x with
 | str z =>
  obtain⟨t,rfl⟩:=r
  cases (show T = "str" from ty)
  exact⟨typeIs_str s z t,fun _ e=>nomatch e⟩
 | int i =>
  obtain⟨t,rfl⟩:=r
  cases (show T = "int" from ty)
  exact⟨V0 s i t,fun _ e=>nomatch e⟩
 | ref p =>
  cases r
  rcases ty with⟨rfl,xs,hq⟩ | ⟨rfl,o,hk,hc,hd⟩ | ⟨rfl,hk⟩ | ⟨rfl,S,n,hk⟩
  ·obtain⟨its,_,pl,_⟩:=I.list hq
   refine⟨pl.isList.typeIs,fun a e=>?_⟩
   cases e
   obtain⟨o,n,e,c,hd,_⟩:=pl
   exact⟨o,e,hd⟩
  ·refine⟨⟨o,I.kIn p o hk,hc⟩,fun a e=>?_⟩
   cases e
   exact⟨o,I.kIn _ o hk,hd⟩
  ·have z:∃ o,s.heap.get? p=some o/\o.ExactDict:=by
    rcases hk with⟨kvs,hk⟩ | ⟨kvs,hk⟩
    ·obtain⟨_,_,_,_,o,_,_,e,ex,_⟩:=I.hok p _ hk
     exact⟨o,e,ex⟩
    ·obtain⟨_,_,_,_,o,_,_,e,ex,_⟩:=I.hok p _ hk
     exact⟨o,e,ex⟩
   obtain⟨o,e,ex⟩:=z
   refine⟨⟨o,e,ex.1⟩,fun a e2=>?_⟩
   cases e2
   exact⟨o,e,ex.2.1⟩
  ·obtain⟨o,_,_,_,e,ex,_⟩:=I.hok p _ hk
   refine⟨⟨o,e,ex.1⟩,fun a e2=>?_⟩
   cases e2
   exact⟨o,e,ex.2.1⟩
 | _=>exact Ux ty
def O7 (K:Qe) (T:String) (r:V->List V->Hp->VK->Prop) (to:TE):TE:=fun σ H Q=>to σ H fun x H1=>tyV K T x H1/\r x [] H1 Q
def tBM (K:Qe) (T:String) (r:V->List V->Hp->VK->Prop) (to:TE) (t:TA):TE:=fun σ H Q=>to σ H fun x H1=>tyV K T x H1/\t σ H1 fun xs H2=>r x xs H2 Q
variable {o e:Expr} {es:List Expr} {to:TE} {t:TA} {name:Rr} {apos cpos:Vk} {T id:String} {r:V->List V->Hp->VK->Prop}
theorem Mm (pa:PlainAttrs T) (slot:Slot T name id) (hty:typeOf (.builtin id)=pure (.type "method_descriptor")) (hm:MtR X id r) (ho:PE X o to)
  (hbase:attributeBase o name X.env (S6 o X.env)=S6 o X.env:=by rfl) (hline:(apos.endLine == cpos.line)=true:=by rfl):PE X (.Call (.Attribute o name apos) [] [] cpos) (O7 X.K T r to):=by
 intro pins s σ H Q I h
 refine wpAny_Call_method0_late hbase hline (thn (ho pins s σ H _ I h) fun v s1 ⟨x,H1,I1,r1,ty,q1⟩=>?_)
 obtain⟨h1,h2⟩:=G9 I1 r1 ty
 exact⟨T,id,pa,slot,hty,h1,h2,Calls.callWith_builtin rfl (PySem.evalArgs_none (hm pins s1 σ H1 x [] v [] Q I1 r1 .nil q1))⟩
theorem jX (pa:PlainAttrs T) (slot:Slot T name id) (hty:typeOf (.builtin id)=pure (.type "method_descriptor")) (hm:MtR X id r) (ho:PE X o to) (ha:PA X (e::es) t)
  (hbase:attributeBase o name X.env (S6 o X.env)=S6 o X.env:=by rfl)
  (hfew:((Ul cpos (Qv (e::es) X.env)).all (fun x=>!x.1) && (backToKw cpos (keywordEach [] X.env)).all (fun x=>x.1.isSome)
   && decide ((e::es).length+([]:List Keyword).length+(if ([]:List Keyword).isEmpty then 0 else 1) < 30))=true:=by rfl)
  (hline:(apos.endLine == cpos.line)=true:=by rfl) (hs:Qv (e::es) X.env=(false,S6 e X.env)::Qv es X.env:=by rfl) (hplain:(Ul cpos (Qv es X.env)).any (·.1)=false:=by rfl) :
  PE X (.Call (.Attribute o name apos) (e::es) [] cpos) (tBM X.K T r to t):=by
 intro pins s σ H Q I h
 refine wpAny_Call_method_late hbase hfew hline rfl (thn (ho pins s σ H _ I h) fun v s1 ⟨x,H1,I1,r1,ty,q1⟩=>?_)
 obtain⟨h1,h2⟩:=G9 I1 r1 ty
 refine⟨T,id,pa,slot,hty,h1,h2,?_⟩
 have hA:=ha cpos pins s1 σ H1 _ I1 q1
 rw[hs] at hA ⊢
 refine Calls.callWith_builtin (by show (false || (Ul cpos (Qv es X.env)).any (·.1))=false; rw[hplain] <;> rfl) (Calls.evalArgs_plain ?_)
 exact thn hA fun us s2 ⟨vs,H2,I2,r2,q2⟩=>hm pins s2 σ H2 x vs v us Q I2 r1 r2 q2
/- xs.append(e),list.index on a module's tuple .. are MtR facts of 06m -/
end
end L2
namespace L2
open PySem PySem.Spec PyProof.Rows
def MtM (X:Cx) (id:String) (r:V->List V->Hp->VK->Prop):Prop :=
 ∀ (pins:List (Addr × Tq)) (s:Pu) (σ:St) (H:Hp) (x:V) (xs:List V) (v:Value) (us:List Value) (Q:VK),Inv X pins σ H s->RelV x v->Vals xs us->r x xs H Q →
  PX (Qo X.prog X.w) X.A (call (.builtin id) (v::us)) (EP X pins σ Q) X.xe s
theorem Vals.one:∀ {x:V} {us:List Value},Vals [x] us->∃ u,us=[u]/\RelV x u
 | _,_,.cons r .nil=>⟨_,rfl,r⟩
theorem Vals.zero:∀ {us:List Value},Vals [] us->us=[]
 | _,.nil=>rfl
theorem Vals.dropLast {xs:List V} {us:List Value} (h:Vals xs us):Vals xs.dropLast us.dropLast:=by
 induction h with
 | nil=>exact .nil
 | cons r t ih =>
  cases t with
  | nil=>exact .nil
  | cons q t'=>exact .cons r ih
theorem Vals.eraseIdx:∀ {xs:List V} {us:List Value} (i:Nat),Vals xs us->Vals (xs.eraseIdx i) (us.eraseIdx i)
 | _,_,_,.nil=>.nil
 | _,_,0,.cons _ t=>t
 | _,_,i+1,.cons r t=>.cons r (Vals.eraseIdx i t)
theorem Vals.rep {xs:List V} {us:List Value} (h:Vals xs us):∀ k:Nat,Vals (Qd k xs).flatten (Qd k us).flatten
 | 0=>.nil
 | k+1=>by
  rw[Sg,Sg,Vi,Vi]
  exact Vals.append h (Vals.rep h k)
theorem yr {α:Type} (l:List α):l.eraseIdx (l.length - 1)=l.dropLast:=by
 induction l with
 | nil=>rfl
 | cons a r ih =>
  cases r with
  | nil=>rfl
  | cons b r =>
   have e:(a::b::r).length - 1=((b::r).length - 1)+1:=by
    have h1:(a::b::r).length=r.length+2:=rfl
    have h2:(b::r).length=r.length+1:=rfl
    lia
   rw[e,List.eraseIdx_cons_succ,ih]
   all_goals rfl
theorem tK {α:Type}:∀ (l:List α) (i:Nat),(l.eraseIdx i).length<=l.length
 | [],_=>PK _
 | _::_,0=>Ti _
 | _::r,i+1=>XF (tK r i)
theorem foldl_rep (its:List Value):∀ (k:Nat) (acc:List Value),
  Vn (fun x1 x2=>x1++x2) acc.toArray (Qd k its.toArray)=(acc++(Qd k its).flatten).toArray
 | 0,acc=>by simp
 | k+1,acc=>by
  have e:acc.toArray++its.toArray=(acc++its).toArray:=by simp
  have e2:(acc++its)++(Qd k its).flatten=acc++(Qd (k+1) its).flatten:=by
   rw[Sg,Vi,Tn]
  rw[← e2,← foldl_rep its k (acc++its),← e,Sg,Rh]
section
variable {X:Cx} {pins:List (Addr × Tq)} {σ:St} {H:Hp} {s:Pu} {l b:Addr} {xs ys zs:List V}
theorem Inv.NT {its its':List Value} {n:Nat} {f:Array Value->Array Value} {t':Nat} (I:Inv X pins σ H s) (hH:H l=some (.lst xs))
  (e:s.heap.get? l=some { cls:=.type "list",data:=.seq its.toArray n }) (hf:f its.toArray=its'.toArray) (hv:Vals ys its') (hz:ys.length<=sizeLine) :
  Inv X pins σ (upd H l (.lst ys)) { s with heap:=s.heap.update l (RJ f),toks:=t' }:=by
 have q:=PySem.IsL.update e f
 rw[hf] at q
 refine I.write (x:=l) (e:=l) (by rw[hH]; exact trivial) (.inl rfl) (fun b' u hb hu=>(QV s.heap (RJ f) (Tu hb)).trans hu) ⟨_,q⟩ ?_
 exact⟨hz,its',_,hv,q⟩
theorem Inv.M6 {its:List Value} {t':Nat} (I:Inv X pins σ H s) (hv:Vals ys its) (hz:ys.length<=sizeLine) :
  Inv X pins σ (upd H s.heap.objs.size (.lst ys)) { s with heap:=s.heap.push { cls:=.type "list",data:=.seq its.toArray },toks:=t' } :=
 I.laid (fun _ _ q=>Pr _ q) (PK _) ⟨hz,its,0,hv,PB _ rfl⟩
theorem Inv.fresh (I:Inv X pins σ H s):H s.heap.objs.size=none:=I.hok.fresh (PK _)
theorem Inv.Jj (I:Inv X pins σ H s) (hH:H l=some (.lst xs)):xs.length<=sizeLine/\∃ (its:List Value) (n:Nat),Vals xs its/\xs.length=its.length/\s.heap.get? l=some { cls:=.type "list",data:=.seq its.toArray n }:=by
 obtain⟨z,its,n,r,e⟩:=I.hok l _ hH
 exact⟨z,its,n,r,r.length,e⟩
theorem Ft {n:Nat} (h:n<=sizeLine):Wi n=false:=by
 unfold Wi
 exact decide_eq_false (by lia)
end
section
variable {X:Cx}
inductive wg (x:V) (vs:List V) (H:Hp) (Q:VK):Prop where
 | mk (l:Addr) (xs:List V) (y:V) (z0:x = .ref l) (z1:vs=[y]) (z2:H l=some (.lst xs)) (z3:xs.length < sizeLine) (z4:Q .non (upd H l (.lst (xs++[y])))):wg  x vs H Q
def Jt:V->List V->Hp->VK->Prop:=fun x vs H Q=>wg  x vs H Q
theorem cM:MtM X "list.append" Jt:=by
 intro pins s σ H x vs v us Q I rx rv h
 obtain⟨l,xs,y,rfl,rfl,hH,hz,q⟩:=h
 cases rx
 obtain⟨u,rfl,ru⟩:=rv.one
 obtain⟨z,its,n,r,hl,e⟩:=I.Jj hH
 refine Ua F.slot_list_append ⟨_,e,rfl⟩ F.entry_list_append (F.args_list_append_2 _ _) (PySem.list_append l its.toArray n u (by rw[P0]; lia)) ⟨e,?_⟩
 refine⟨.non,_,I.NT (its':=its++[u]) hH e (by simp) (r.append (.cons ru .nil)) ?_,rfl,q⟩
 rw[Qf,List.length_singleton]
 lia
def Pb:V->List V->Hp->VK->Prop:=fun x vs H Q=>∃ l xs y,x = .ref l/\vs=[]/\H l=some (.lst xs)/\xs[xs.length - 1]? = some y/\Q y (upd H l (.lst xs.dropLast))
theorem Ld:MtM X "list.pop" Pb:=by
 intro pins s σ H x vs v us Q I rx rv h
 obtain⟨l,xs,y,rfl,rfl,hH,hy,q⟩:=h
 cases rx
 have hus:=rv.zero
 subst hus
 obtain⟨z,its,n,r,hl,e⟩:=I.Jj hH
 obtain⟨u,hu,ru⟩:=r.get hy
 have hy':its.toArray[its.toArray.size - 1]? = some u:=by
  show its.toArray[its.length - 1]? = some u
  rw[← QR,← hl]
  exact hu
 refine Ua F.slot_list_pop ⟨_,e,rfl⟩ F.entry_list_pop (F.args_list_pop_1 _) (MeetsSeq.list_pop_last l its.toArray n u hy' (by rw[P0]; lia)) ⟨e,?_⟩
 refine⟨y,_,I.NT (its':=its.dropLast) hH e ?_ r.dropLast ?_,ru,q⟩
 ·show its.toArray.eraseIdxIfInBounds (its.toArray.size - 1)=its.dropLast.toArray
  rw[P0,Xu,yr]
 ·rw[List.length_dropLast]
  lia
def GX:V->List V->Hp->VK->Prop:=fun x vs H Q=>∃ l xs i k y,x = .ref l/\vs=[.int i]/\H l=some (.lst xs)/\-(2 ^ 63)<=i/\i < 2 ^ 63/\Xx i xs.length=some k/\xs[k]? = some y/\Q y (upd H l (.lst (xs.eraseIdx k)))
theorem Ep:MtM X "list.pop" GX:=by
 intro pins s σ H x vs v us Q I rx rv h
 obtain⟨l,xs,i,k,y,rfl,rfl,hH,h1,h2,hk,hy,q⟩:=h
 cases rx
 obtain⟨u,rfl,ru⟩:=rv.one
 obtain⟨t,rfl⟩:=ru
 obtain⟨z,its,n,r,hl,e⟩:=I.Jj hH
 obtain⟨w,hw,rw'⟩:=r.get hy
 refine Ua F.slot_list_pop ⟨_,e,rfl⟩ F.entry_list_pop (F.args_list_pop_2 _ _)
  (MeetsSeq.list_pop_at l its.toArray n i t k w (fitsIndex_both h1 h2) (by rw[P0,← hl]; exact hk) (by rw[← QR]; exact hw) (by rw[P0]; lia)) ⟨e,?_⟩
 refine⟨y,_,I.NT (its':=its.eraseIdx k) hH e ?_ (r.eraseIdx k) ?_,rw',q⟩
 ·show its.toArray.eraseIdxIfInBounds k=(its.eraseIdx k).toArray
  rw[Xu]
 ·have:=tK xs k
  lia
inductive Mf (x:V) (y:V) (H:Hp) (Q:VK):Prop where
 | mk (l:Addr) (b:Addr) (xs:List V) (zs:List V) (z0:x = .ref l) (z1:y = .ref b) (z2:H l=some (.lst xs)) (z3:H b=some (.lst zs)) (z4:xs.length+zs.length<=sizeLine) (z5:∀ p,H p=none->Q (.ref p) (upd H p (.lst (xs++zs)))):Mf  x y H Q
def O3:R2:=fun x y H Q=>Mf  x y H Q
theorem Aq:OpR X (Ut .Add) O3:=by
 intro pins s σ H x y v u Q I rx ry h
 obtain⟨l,b,xs,zs,rfl,rfl,hH,hB,hz,q⟩:=h
 cases rx
 cases ry
 obtain⟨z,its,n,r,hl,e⟩:=I.Jj hH
 obtain⟨z2,its2,n2,r2,hl2,e2⟩:=I.Jj hB
 refine PySem.P.add_list e e2 ?_ (by rw[P0,P0]; lia)
 have ea:its.toArray++its2.toArray=(its++its2).toArray:=by simp
 rw[ea]
 exact⟨.ref _,_,I.M6 (t':=s.toks) (r.append r2) (by rw[Qf]; lia),rfl,q _ I.fresh⟩
def O1:R2:=fun x y H Q=>∃ l k xs,x = .ref l/\y = .int k/\H l=some (.lst xs)/\-(2 ^ 63)<=k/\k < 2 ^ 63/\xs.length * k.toNat<=sizeLine ∧
 ∀ p,H p=none->Q (.ref p) (upd H p (.lst (Qd k.toNat xs).flatten))
theorem len_rep {α:Type} (xs:List α) (k:Nat):(Qd k xs).flatten.length=k * xs.length:=by
 induction k with
 | zero=>simp
 | succ k ih=>rw[Sg,Vi,Qf,ih,Nat.succ_mul,Nat.add_comm]
theorem Hh:OpR X (Ut .Mult) O1:=by
 intro pins s σ H x y v u Q I rx ry h
 obtain⟨l,k,xs,rfl,rfl,hH,h1,h2,hz,q⟩:=h
 cases rx
 obtain⟨t,rfl⟩:=ry
 obtain⟨z,its,n,r,hl,e⟩:=I.Jj hH
 have hlen:its.toArray.size * k.toNat<=sizeLine:=by rw[P0,← hl]; exact hz
 have hcap:¬ its.toArray.size * k.toNat > (2 ^ 63 - 1) / 8:=by
  have:(sizeLine:Nat)<=(2 ^ 63 - 1) / 8:=by decide
  lia
 have hfit:¬ (!Builtin.List.listFitsIndex k)=true:=by
  rw[fitsIndex_both h1 h2]
  exact PQ
 have hlong:¬ Wi (its.toArray.size * k.toNat)=true:=by
  rw[Ft hlen]
  exact PQ
 have hnew:Vn (fun x1 x2=>x1++x2) #[] (Qd (if its.toArray.isEmpty=true then 0 else k.toNat) its.toArray)=(Qd k.toNat its).flatten.toArray:=by
  have f0:∀ m:Nat,Vn (fun x1 x2=>x1++x2) #[] (Qd m its.toArray)=(Qd m its).flatten.toArray:=fun m=>by
   have:=foldl_rep its m []
   rw[WK] at this
   exact this
  rw[f0]
  cases its with
  | nil=>simp
  | cons a r'=>rw[if_neg (by simp)]
 refine V8 (T:="list") (U:="int") (by decide) ⟨_,e,rfl⟩ (fun s'=>V0 s' k t) noFill_list_mul X4 Vb repeat_list F.slot_int_index.lookup
  (Ua Vb (V0 s k t) XM (Xp _ _) (int___rmul___int_list k t l its.toArray n)
   ⟨e,rfl,⟨_,e,rfl⟩,Ua F.slot_list_mul ⟨_,e,rfl⟩ F.entry_list_mul (F.args_list_mul_2 _ _) (AutoListH.list___mul___list_int_3 l its.toArray n k t hfit hcap hlong) ⟨e,?_⟩⟩)
 rw[hnew]
 exact⟨.ref _,_,I.M6 (t':=s.toks) (r.rep k.toNat) (by rw[len_rep,Nat.mul_comm]; exact hz),rfl,q _ I.fresh⟩
end
section
variable {prog:Qt} {w:QF} {A:QG} {E:Value->Pu->Prop} {s:Pu}
set_option maxRecDepth 100000 in
end
section
variable {X:Cx}
end
end L2
namespace Att
open PySem PySem.W PySem.Calls PyProof.Rows
theorem nC {P:Params} {h:Q7}:∀ (ns:List Int) (vs:List Value),WellAll P h vs (ns.map WData.int)->Ra vs ns:=by
 intro ns
 induction ns with
 | nil =>
  intro vs w
  rw[Vg] at w
  cases w
  exact .nil
 | cons n ns ih =>
  intro vs w
  rw[QH] at w
  cases w with
  | cons a b =>
   cases a
   exact .cons _ _ (ih _ b)
theorem Cz {l:OpenLaw} {n:Nat} (hn:l.most=some n) {P:Params} {h:Q7} {args:List WData} {vals:List Value}
  (hpre:l.row.toRowW.claim.pre args=true) (hwl:WellAll P h vals args) :
  ∃ a vs ns,vals=[QK a]/\args=[WData.list (ns.map WData.int)]/\h.get? a=some { cls:=.type "list",data:=.seq vs.toArray }/\Ra vs ns/\ns.length<=n:=by
 have hsh:WShape.hasAll [] args [.list .int]=true:=(pre_splitW hpre).1
 have hc:l.pre.holds [] { args:=args }=true:=(pre_splitW hpre).2
 obtain⟨d,r,rfl,h1,h2⟩:=hasAllW_cons hsh
 obtain rfl:=hasAllW_nil h2
 obtain⟨xs,rfl,h3⟩:=hasW_list h1
 obtain⟨ns,rfl⟩:=items_int h3
 have hlen:ns.length<=n:=by
  unfold OpenLaw.pre at hc
  have h4:(WTm.not (.lt (.lit (.int (n:Int))) (.len (.arg 0)))).holds [] { args:=[.list (ns.map .int)] }=true:=by
   have h4:=(holds_andW hc).1
   rw[hn] at h4
   exact h4
  have h5:=condW_of h4 (w_not (w_lt w_lit (w_len_list (w_arg rfl))))
  rw[Pq] at h5
  refine Nat.le_of_not_lt fun q=>?_
  have q':(n:Int) < ((ns.length:Nat):Int):=by lia
  first
   | (rw[decide_eq_true q'] at h5; exact absurd h5 (by decide))
   | (simp at h5; lia)
 cases hwl with
 | cons w1 w2 =>
  cases w2
  cases w1 with
  | list ho hall=>exact⟨_,_,ns,rfl,rfl,ho,nC ns _ hall,hlen⟩
theorem Dd (l:OpenLaw) (args:List WData):l.row.toRowW.claim.post args (.bool true) args=true :=
 postW_of (r:=l.row.toRowW) (X:=(true == true))
  (show WShape.has [] (.bool true) .bool=true by first | rfl | decide | simp [WShape.has,WShape.arms,WShape.armsAll])
  (show (WTm.eq .res (.lit (.bool true))).value [] { args:=args,res:=some (.bool true),after:=args }=some (.bool (true == true)) from w_eq_bool (w_res rfl) w_lit) rfl
theorem uJ {l:OpenLaw} {n:Nat} {q:Qt} {loose:List Rr} {XP:(Rr->Option Value)->Q7->Prop} {YP:QF->Q7->Prop} {d:DefRec}
  (hn:l.most=some n) (hdf:d.params.defaults=[])
  (call:∀ (w:QF) (s₀ s₁:Pu) (mg mb:Rr->Option Value) (fa:Addr) (o:Tq) (pm cd doc:Value) (a:Addr) (vs:List Value) (ns:List Int),
   Ground q loose [] XP w s₀ mg mb s₁.heap->YP w s₁.heap →
   s₁.heap.get? fa=some o->o.data = .func (docDef d.name d.params d.body d.scope pm cd doc)->s₁.heap.CodeRec cd d.name->mg d.name=some (.ref fa) →
   s₁.heap.get? a=some { cls:=.type "list",data:=.seq vs.toArray }->Ra vs ns->ns.length<=n->s₁.gens = #[] →
   UJ (Qo l.prog w) Xg (.call (.ref fa) ⟨[.ref a],[]⟩) (fun r s'=>r = .ok (.ret (.bool true))/\OldK s₁.heap s'.heap/\s'.os=s₁.os/\Ww s'.gens) s₁) :
  WalkO q loose XP YP l.row.toRowW d [] (fun f vs=>PySem.call f vs):=by
 intro w s₀ s₁ mg mb G Y fa o pm cd doc dV kV ho hd hcd hD hmg hg args vals as hpre hlay hrd hwl hlo
 obtain rfl:dV = .none:=Dflts.none hD hdf
 obtain rfl:kV = .none:=Dflts.noKw hD
 obtain⟨a,vs,ns,rfl,rfl,hobj,hints,hlen⟩:=Cz hn hpre hwl
 refine enter_call (Ws (call w s₀ s₁ mg mb fa o pm cd doc a vs ns G Y ho (fd_plain hd) hcd hmg hobj hints hlen hg) fun r s' hq=>?_)
 obtain⟨rfl,h2,h3,h4⟩:=hq
 exact⟨.inl ⟨.bool true,.bool true,[],rfl,fun _=>rfl,.bool true,Dd l _,fun _=>⟨Xn,fun _ hm=>(nomatch hm)⟩⟩,h2,h3,h4⟩
section
variable {prog:Qt} {w:QF} {A:QG} {E:Value->Pu->Prop} {s:Pu} {K:Frag}
end
end Att
namespace L2
open PySem PySem.Spec PyProof.Rows
theorem jM:∀ {vs:List Value} {ns:List Int},Ra vs ns->Vals (ns.map V.int) vs
 | _,_,.nil=>.nil
 | _,_,.cons n t h=>.cons ⟨t,rfl⟩ (jM h)
def Only (H:Hp):Prop:=∀ b,H b=none∨∃ o xs,H b=some (.frz o (.lst xs))
theorem FJ {P:Qt} {w:QF} {K:Qe} {mg mb:Rr->Option Value} {CX:CXT} {k:Nat} {fa a:Addr} {fd:Ui} {x:Rr} {sp:Sp} {s₁:Pu} {vs:List Value} {ns:List Int}
  (KX:K.In s₁.heap) (hns:s₁.heap.Ns Qy mg) (hb:s₁.heap.Ns builtinsNs mb) (hbb:∀ x:Rr,x≠"__name__"->mb x=QZ x) (hlim:s₁.heap.NoLimit) (hg:s₁.gens = #[])
  (ha:s₁.heap.get? a=some { cls:=.type "list",data:=.seq vs.toArray }) (hi:Ra vs ns) (hl:ns.length<=sizeLine) (hr:oG k Xg)
  (F:∀ base:Q7,K.In base->base.Ns Qy mg->eX P w K mg base CX k fa fd [x] sp) (hbind:∀ (s:Pu) (u:Value),WX s fd ⟨[u],[]⟩ [(x,u)])
  (hsp:∀ H:Hp,Only H->SqL K H a (ns.map V.int)->sp [.ref a] H (fun v _=>v = .bl true) fun _ _ _=>False)
  (hCX:∀ H e s',CX [] H s₁ (fun _ _ _=>False) e s'->False) :
  UJ (Qo P w) Xg (.call (.ref fa) ⟨[.ref a],[]⟩) (fun r s'=>r = .ok (.ret (.bool true))/\OldK s₁.heap s'.heap/\s'.os=s₁.os/\Ww s'.gens) s₁:=by
 have rv:=jM hi
 have lenV:=hi.length
 have core:∀ H:Hp,Only H->SqL K H a (ns.map V.int)->HOk P w H s₁.heap->(∀ b,H b≠none->b=a)->(H a≠none->K.lookup a=none) →
   UJ (Qo P w) Xg (.call (.ref fa) ⟨[.ref a],[]⟩) (fun r s'=>r = .ok (.ret (.bool true))/\OldK s₁.heap s'.heap/\s'.os=s₁.os/\Ww s'.gens) s₁:=by
  intro H hO hS hok hA hK
  have base_of:∀ {b:Addr} {o:Tq},s₁.heap.get? b=some o->H b=none->(Em s₁.heap H).get? b=some o:=fun e n=>Ec e n
  have noA:∀ {b:Addr} {o:Tq} {es:Array DictEntry} {ep:Nat},s₁.heap.get? b=some o->o.data = .dict es ep->H b=none:=fun {b o es ep} e d=>by
   cases q:H b with
   | none=>rfl
   | some u =>
    have e':b=a:=hA b (by rw[q]; simp)
    subst e'
    rw[ha] at e; cases e
    have d':Data.seq vs.toArray _=Data.dict es ep:=d
    cases d'
  have nsK:∀ {b:Addr} {m:Rr->Option Value},s₁.heap.Ns b m->(Em s₁.heap H).Ns b m:=fun {b m} ⟨o,es,ep,e,d,r⟩=>⟨o,es,ep,base_of e (noA e d),d,r⟩
  have hKb:K.In (Em s₁.heap H):=fun b o e=>base_of (KX b o e) (by
   cases q:H b with
   | none=>rfl
   | some u =>
    have e':b=a:=hA b (by rw[q]; simp)
    subst e'
    rw[hK (by rw[q]; simp)] at e; cases e)
  have hM:Mod K mg (Em s₁.heap H):=⟨hKb,nsK hns,⟨mb,nsK hb,hbb⟩,let ⟨mc,h1,h2⟩:=hlim; ⟨mc,nsK h1,h2⟩⟩
  have e0:MT P w K mg (Em s₁.heap H) Xg [] s₁ H:=⟨rfl,hM,fun b o e=>Jb e,Nat.le_of_eq (zm _ _),trivial,fun b hb=>absurd (show b∈([]:List Addr) from hb) (by simp),hok,.of_eq hg⟩
  refine Ws ((F _ hKb (nsK hns)).run Xg [] s₁ H ⟨[.ref a],[]⟩ [.ref a] [.ref a] _ _ hr e0 (hbind s₁ (.ref a)) (.cons rfl .nil) (hsp H hO hS)) fun r s' h=>?_
  cases r with
  | error e=>exact (hCX H e s' h).elim
  | ok fl =>
   cases fl with
   | next=>exact Ux h
   | brk=>exact Ux h
   | cont=>exact Ux h
   | ret u =>
    obtain⟨v,H',os,bare,un,hok',r',q⟩:=h
    have q':v = .bl true:=q
    subst q'
    obtain rfl:u=Value.bool true:=r'
    refine⟨rfl,OldK.of_keep fun b o e=>?_,os,bare⟩
    cases q:H b with
    | none=>exact un.keep b o e q (by intro z; exact absurd (show b∈([]:List Addr) from z) (by simp)) (by simp)
    | some u =>
     rcases hO b with z | ⟨ob,xs,z⟩
     ·rw[q] at z; cases z
     ·have z2:=un.frzs b ob _ z
      obtain⟨e1,_⟩:=hok b _ z
      obtain⟨e2,_⟩:=hok' b _ z2
      rw[e] at e1; cases e1
      exact e2
 cases hk:K.lookup a with
 | some o =>
  have e:=KX a o hk
  rw[ha] at e
  cases e
  refine core (fun _=>none) (fun _=>.inl rfl) (.inr ⟨_,vs.toArray,_,hk,rfl,rfl,rfl,by rw[P0,lenV]; exact hl,by simpa using rv⟩) (fun b u z=>by have z':(none:Option HO)=some u:=z; cases z') (fun b z=>absurd rfl z) fun z=>absurd rfl z
 | none =>
  refine core (fun b=>if b=a then some (.frz { cls:=.type "list",data:=.seq vs.toArray } (.lst (ns.map V.int))) else none) (fun b=>?_) (.inl (.inr ⟨{ cls:=.type "list",data:=.seq vs.toArray },if_pos rfl⟩)) (fun b u z=>?_) (fun b z=>?_) fun _=>hk
  ·by_cases hb:b=a
   ·exact .inr ⟨_,_,if_pos hb⟩
   ·exact .inl (if_neg hb)
  ·by_cases hb:b=a
   ·have z':=(if_pos hb).symm.trans z
    cases z'
    subst hb
    exact⟨ha,by rw[Pq]; exact hl,vs,_,rv,ha⟩
   ·have z':=(if_neg hb).symm.trans z
    cases z'
  ·by_cases hb:b=a
   ·exact hb
   ·exact absurd (if_neg hb) z
end L2
namespace L2
open PySem PySem.Spec PyProof.Rows
theorem Ig {l:PySem.W.OpenLaw} {n k:Nat} {q:Qt} {loose:List Rr} {XP:(Rr->Option Value)->Q7->Prop} {YP:QF->Q7->Prop} {d:DefRec} {K:Params->Qe} {CX:QF->CXT} {sp:QF->Sp} {x:Rr}
  (hn:l.most=some n) (hn2:n<=sizeLine) (hdf:d.params.defaults=[]) (hr:oG k Xg)
  (hY:∀ (w:QF) (h:Q7),YP w h->(K w.params).In h)
  (F:∀ (w:QF) (mg:Rr->Option Value) (fa:Addr) (h:Q7),(K w.params).In h->h.Ns Qy mg->mg d.name=some (.ref fa) →
   ∃ fd:Ui,(∀ (s:Pu) (u:Value),WX s fd ⟨[u],[]⟩ [(x,u)]) ∧
    ∀ base:Q7,(K w.params).In base->base.Ns Qy mg->eX l.prog w (K w.params) mg base (CX w) k fa fd [x] (sp w))
  (hsp:∀ (w:QF) (H:Hp) (a:Addr) (ns:List Int),ns.length<=n->Only H->SqL (K w.params) H a (ns.map V.int)->sp w [.ref a] H (fun v _=>v = .bl true) fun _ _ _=>False)
  (hCX:∀ (w:QF) (H:Hp) (s:Pu) (e:Value) (s':Pu),CX w [] H s (fun _ _ _=>False) e s'->False) :
  PySem.W.WalkO q loose XP YP l.row.toRowW d [] (fun f vs=>PySem.call f vs):=by
 refine Att.uJ hn hdf fun w s₀ s₁ mg mb fa o pm cd doc a vs ns G Y ho hd hcd hmg hobj hints hlen hg=>?_
 have KX:=hY w _ Y
 obtain⟨fd,hb,hF⟩:=F w mg fa _ KX G.T.g hmg
 exact FJ KX G.T.g G.T.b G.T.builtins G.T.nolimit hg hobj hints (Q0 hlen hn2) hr hF hb (fun H hO hS=>hsp w H a ns hlen hO hS) fun H e s'=>hCX w H s₁ e s'
end L2
namespace L2
open PySem PySem.Spec PyProof.Rows
def kW (s:Stmt):Arguments:=match s with
 | .FunctionDef _ a _ _ _ _ _ _ _ _=>a
 | _=>{ posonlyargs:=[],args:=[],vararg:=none,kwonlyargs:=[],kw_defaults:=[],kwarg:=none,defaults:=[] }
def iV (s:Stmt):List Stmt:=match s with
 | .FunctionDef _ _ b _ _ _ _ _ _ _=>b
 | _=>[]
def aJ (s:Stmt):Ve:=match s with
 | .FunctionDef _ _ _ _ _ _ sc _ _ _=>sc
 | _=>{ kind:=.function,names:=[],isGenerator:=false,isCoroutine:=false }
abbrev CX0:CXT:=fun _ _ _ _ _ _=>False
abbrev E0:XK:=fun _ _ _=>False
theorem NQ {X:Cx}:Passes CX0 X E0:=fun _ _ _ _ _ _ _ h=>h.elim
structure Fun (K:Qe) (x qual:Rr) (st:Stmt) (f:Addr) (fd:Ui):Prop where
 ex:∃ (oc:Value) (od:Option Addr) (kV doc pm:Value) (an:Option Addr) (cdv ct:Value) (osl:Array (Option Value)),
  fd=Vf x qual (kW st) (iV st) (aJ st) .none kV doc pm an cdv ct/\K.lookup f=some ⟨oc,od,.func fd,osl⟩/\WN K cdv qual=true
 kp:V2 K (.ref f)=true
section
variable {P:Qt} {w:QF} {K:Qe} {mg:Rr->Option Value} {base:Q7}
theorem Fun.ok {x qual:Rr} {st:Stmt} {f:Addr} {fd:Ui} {N ps:List Rr} {k:Nat} {sp:Sp} (F:Fun K x qual st f fd) (S:aX N ps (aJ st)) (len:∀ vs H Q E,sp vs H Q E->vs.length=ps.length)
  (hbody:∀ (cdv:Value) (A:QG) (outer:List Env) (s:Pu) (H:Hp) (vs:List V) (Q:VK) (E:XK),oG k (A.deeper (W6 qual (aJ st) s.heap.objs.size f cdv))->sp vs H Q E →
   ∃ t,PSs (Kg CX0 P w K mg base N qual (aJ st) f cdv A outer s H E).nox (iV st) t/\t { nx:=fun _ H'=>Q .non H',rt:=Q } (start N vs) H):eX P w K mg base CX0 (k+1) f fd ps sp:=by
 obtain⟨oc,od,kV,doc,pm,an,cdv,ct,osl,rfl,lk,hcd⟩:=F.ex
 refine Nz lk hcd S len fun A outer s H vs Q E hr hsp=>?_
 obtain⟨t,h,q⟩:=hbody cdv A outer s H vs Q E hr hsp
 exact⟨t,h.nox,q⟩
theorem Fun.binds {x qual:Rr} {st:Stmt} {f:Addr} {fd:Ui} {ps:List Rr} (F:Fun K x qual st f fd)
  (h:∀ (kV doc pm:Value) (an:Option Addr) (cdv ct:Value) (us:List Value),us.length=ps.length->bindArgs (Vf x qual (kW st) (iV st) (aJ st) .none kV doc pm an cdv ct) ⟨us,[]⟩=pure (ps.zip us)):Binds K fd ps []:=by
 obtain⟨oc,od,kV,doc,pm,an,cdv,ct,osl,rfl,lk,hcd⟩:=F.ex
 exact .all (h kV doc pm an cdv ct)
theorem Hs {x qual:Rr} {st:Stmt} {f:Addr} {oc:Value} {od an:Option Addr} {osl:Array (Option Value)} {kV doc pm cdv ct:Value} (l:K.lookup f=some ⟨oc,od,.func (Vf x qual (kW st) (iV st) (aJ st) .none kV doc pm an cdv ct),osl⟩)
  (c:WN K cdv qual=true) (k:V2 K (.ref f)=true):Fun K x qual st f (Vf x qual (kW st) (iV st) (aJ st) .none kV doc pm an cdv ct):=⟨⟨oc,od,kV,doc,pm,an,cdv,ct,osl,rfl,l,c⟩,k⟩
end
theorem aD {n:Nat} (h:n<=1000):n < sizeLine:=Uc h (by decide)
section
variable {X:Cx}
theorem pv (i:Nat) {x:Rr} {pos:Vk} (hN:X.N[i]? = some x:=by rfl) (hv:Vis X.env.scope x:=by first | exact Qi rfl | exact Wg (Qi rfl) | exact Wg (Wg rfl)) (hd:(x == ("__debug__" : Rr))=false:=by decide)
  (hcd:(x == ("__classdict__" : Rr))=false:=by decide):PE X (.Name x pos) (Nf i):=LK hN hv hd hcd
end
theorem gq {A B:Prop} (h:B):if false=true then A else B:=by
 rw[if_neg PQ]
 exact h
theorem jt {A B:Prop} (h:A):if true=true then A else B:=by
 rw[if_pos rfl]
 exact h
theorem yP {c A B:Prop} [Decidable c] (h1:c->A) (h2:¬ c->B):if c then A else B:=by
 by_cases h:c
 ·rw[if_pos h]
  exact h1 h
 ·rw[if_neg h]
  exact h2 h
def aM (H H':Hp):Prop:=∀ b o,H b=some o->H' b=some o
theorem aM.refl (H:Hp):aM H H:=fun _ _ h=>h
theorem aM.trans {H H1 H2:Hp} (a:aM H H1) (b:aM H1 H2):aM H H2:=fun c o h=>b c o (a c o h)
theorem aM.free {H H':Hp} (e:aM H H') {l:Addr} (h:H' l=Option.none):H l=Option.none:=by
 cases q:H l with
 | none=>rfl
 | some o =>
  rw[e l o q] at h
  cases h
theorem aM.seq {K:Qe} {H H':Hp} {a:Addr} {xs:List V} (e:aM H H') (h:SqL K H a xs):SqL K H' a xs:=by
 rcases h with (h | ⟨o,h⟩) | h
 ·exact .inl (.inl (e _ _ h))
 ·exact .inl (.inr ⟨o,e _ _ h⟩)
 ·exact .inr h
end L2
set_option maxHeartbeats 4000000
namespace L2
open PySem PySem.Spec PyProof.Rows
theorem Ag {env:Env}:∀ {names:List (Rr × V3)} {x:Rr},names.lookup x=some .free →
  (names.map fun (n,k)=>if (k == R5 && env.scope.kind == .function && env.kindOf n == some .cell) then (n,W3) else (n,k)).lookup x=some .cell ∨
  (names.map fun (n,k)=>if (k == R5 && env.scope.kind == .function && env.kindOf n == some .cell) then (n,W3) else (n,k)).lookup x=some .free
 | [],_,h=>by simp at h
 | (n,k)::r,x,h=>by
  have ih:=@Ag env r x
  rw[QH]
  cases hx:x == n with
  | true =>
   rw[Rn,hx] at h
   cases h
   by_cases hc:(R5 == R5 && env.scope.kind == .function && env.kindOf n == some .cell)=true
   ·refine .inl ?_
    dsimp only
    rw[if_pos hc,Rn,hx]
   ·refine .inr ?_
    dsimp only
    rw[if_neg hc,Rn,hx]
  | false =>
   rw[Rn,hx] at h
   dsimp only
   by_cases hc:(k == R5 && env.scope.kind == .function && env.kindOf n == some .cell)=true
   ·rw[if_pos hc,Rn,hx]; exact ih h
   ·rw[if_neg hc,Rn,hx]; exact ih h
theorem uA {env:Env}:∀ {names:List (Rr × V3)} {x:Rr} {k':V3},
  (names.map fun (n,k)=>if (k == R5 && env.scope.kind == .function && env.kindOf n == some .cell) then (n,W3) else (n,k)).lookup x=some k'->names.lookup x=some k'∨names.lookup x=some .free
 | [],_,_,h=>by simp at h
 | (n,k)::r,x,k',h=>by
  have ih:=@uA env r x k'
  rw[QH] at h
  dsimp only at h
  cases hx:x == n with
  | true =>
   rw[Rn,hx]
   by_cases hc:(k == R5 && env.scope.kind == .function && env.kindOf n == some .cell)=true
   ·have hk:k = .free:=by
     rw[Ru,Ru] at hc
     exact eq_of_beq hc.1.1
    exact .inr (by rw[hk])
   ·rw[if_neg hc,Rn,hx] at h
    exact .inl h
  | false =>
   rw[Rn,hx]
   by_cases hc:(k == R5 && env.scope.kind == .function && env.kindOf n == some .cell)=true
   ·rw[if_pos hc,Rn,hx] at h; exact ih h
   ·rw[if_neg hc,Rn,hx] at h; exact ih h
theorem vL {env:Env}:∀ (names:List (Rr × V3)) (acc:List (Rr × Addr)),(∀ y∈names,y.2 = .free->∃ c,env.cells.lookup y.1=some c)->(∀ n c,acc.lookup n=some c->env.cells.lookup n=some c) →
  ∃ cl,(forIn names acc (fun (x:Rr × V3) (r:List (Rr × Addr))=>(match x with | (name,kind)=>if (kind == R5)=true then (do let c ← cellOf env name; pure (Va ((name,c)::r))) else pure (Va r):Sem (ForInStep (List (Rr × Addr))))))=pure cl ∧
   (∀ n c,cl.lookup n=some c->env.cells.lookup n=some c)/\(∀ n c,acc.lookup n=some c->∃ c',cl.lookup n=some c')/\∀ y∈names,y.2 = .free->∃ c,cl.lookup y.1=some c
 | [],acc,_,h=>⟨acc,by rw[Vh],h,fun _ c e=>⟨c,e⟩,fun y hy=>by simp at hy⟩
 | (n,k)::r,acc,hf,h=>by
  rw[U8]
  dsimp only
  by_cases hk:(k == R5)=true
  ·rw[if_pos hk]
   have hk':k = .free:=eq_of_beq hk
   obtain⟨c,hc⟩:=hf (n,k) PN hk'
   have hc:env.cells.lookup n=some c:=hc
   have ec:cellOf env n=pure c:=by unfold cellOf; rw[hc]
   have h2:∀ m d,((n,c)::acc).lookup m=some d->env.cells.lookup m=some d:=fun m d e=>by
    rw[Rn] at e
    cases hx:m == n with
    | true=>rw[hx] at e; cases e; rw[eq_of_beq hx]; exact hc
    | false=>rw[hx] at e; exact h m d e
   obtain⟨cl,e1,e2,e3,e4⟩:=vL r ((n,c)::acc) (fun y hy=>hf y (Qc _ hy)) h2
   refine⟨cl,by rw[ec,pure_bind,pure_bind]; exact e1,e2,fun m d e=>?_,fun y hy hyf=>?_⟩
   ·refine (match hx:m == n with | true=>e3 m c (by rw[Rn,hx]) | false=>e3 m d (by rw[Rn,hx]; exact e))
   ·rcases List.mem_cons.mp hy with rfl | hy
    ·exact e3 n c (by rw[Rn,beq_self_eq_true])
    ·exact e4 y hy hyf
  ·rw[if_neg hk]
   obtain⟨cl,e1,e2,e3,e4⟩:=vL r acc (fun y hy=>hf y (Qc _ hy)) h
   refine⟨cl,by rw[pure_bind]; exact e1,e2,e3,fun y hy hyf=>?_⟩
   rcases List.mem_cons.mp hy with rfl | hy
   ·exact absurd (by rw[show k=R5 from hyf]; rfl) hk
   ·exact e4 y hy hyf
theorem Dp {scope:Ve} {env:Env} (h:∀ y∈scope.names,y.2 = .free->∃ c,env.cells.lookup y.1=some c) :
  ∃ cl,closureFor scope env=pure cl/\(∀ n c,cl.lookup n=some c->env.cells.lookup n=some c)/\∀ y∈scope.names,y.2 = .free->∃ c,cl.lookup y.1=some c:=by
 obtain⟨cl,e1,e2,_,e4⟩:=vL scope.names [] h (fun _ _ e=>by simp at e)
 refine⟨cl,?_,e2,e4⟩
 unfold closureFor
 first
  | exact e1
  | (rw[← bind_pure (x:=pure cl),← e1]; rfl)
  | (simp only[bind_pure]; exact e1)
def dD (X:Cx) (scope:Ve) (cl:List (Rr × Addr)) (C:Addr) (N:List Rr) (s:Pu) (H:Hp) (fp:List Addr):Cx :=
 {X with N:=N,s₀:=s,H₀:=H,env:=compEnvC scope cl C X.env,outer:=X.stack,ex:=fp,fn:=fun _=>false,pn:=[],xe:=fun _ _=>False }
structure rE (X:Cx) (scope:Ve) (F:List Rr) (cap:List Nat):Prop where
 kind:scope.kind = .function
 cell:∀ y∈scope.names,y.2≠.cell
 nms:∀ y∈scope.names,y.2 = .local->scope.names.lookup y.1=some .local
 fr:∀ y∈scope.names,y.2 = .free->X.env.kindOf y.1=some .cell∨X.env.kindOf y.1=some .free
 len:cap.length=F.length
 at':∀ (k:Nat) (x:Rr),F[k]? = some x->∃ i,cap[k]? = some i/\X.N[i]? = some x/\scope.names.lookup x=some .free
def PTs (X:Cx) (ifs:List Expr) (t:TT):Prop :=
 ∀ (pins:List (Addr × Tq)) (s:Pu) (σ:St) (H:Hp) (Q:Bool->Hp->Prop),Inv X pins σ H s->t σ H Q →
  PX (Qo X.prog X.w) X.A (forIn ifs true fun c r=>if r=true then do let ok ← isTrue c X.env (S6 c X.env); pure (Va ok) else pure (Va r)) (TP X pins σ Q) X.xe s
def Jp:TT:=fun _ H Q=>Q true H
theorem bC {X:Cx}:PTs X [] Jp:=fun _ _ _ H _ I h=>wpAny_tests_nil ⟨H,I,h⟩
theorem vp {X:Cx} {c:Expr} {t:TT} (hc:PT X c t):PTs X [c] t:=fun pins s σ H Q I h=>wpAny_tests_one (hc pins s σ H Q I h)
theorem yG {prog:Qt} {w:QF} {A:QG} {R:W8->Pu->Prop} {s:Pu} {elt target iter:Expr} {ifs:List Expr} {scope:Ve} {pos:Vk} {it acc:Value} {env:Env} (I:Nat->Pu->Prop)
  (turn:∀ n s,I n s->PX (Qo prog w) A (Td it) (fun r s₁=>match r with
   | none=>R (.ok .next) s₁
   | some v=>PX (Qo prog w) A (Wy target it v) (fun _ s₀=>PX (Qo prog w) A (assign target env v) (fun _ s₂ =>
     PX (Qo prog w) A (forIn ifs true fun c r=>if r=true then do let ok ← isTrue c env (S6 c env); pure (Va ok) else pure (Va r)) (fun ok s₃ =>
      if ok=true then PX (Qo prog w) A (S6 elt env) (fun x s₄=>PX (Qo prog w) A (call (.builtin "list.append") [acc,x]) (fun _ s₅=>∃ m,m < n/\I m s₅) (fun _ _=>False) s₄) (fun _ _=>False) s₃
      else ∃ m,m < n/\I m s₃) (fun _ _=>False) s₂) (fun _ _=>False) s₀) (fun _ _=>False) s₁) (fun _ _=>False) s)
  (n:Nat) (h:I n s):UJ (Qo prog w) A (.compLoop (.ListComp elt [⟨target,iter,ifs,0⟩] scope pos) 0 it acc env) R s:=by
 have no:∀ {E:Value->Pu->Prop} (x:Value) (s':Pu),(fun (_:Value) (_:Pu)=>False) x s'->E x s':=fun _ _ z=>z.elim
 refine codeAny_loop rfl I (fun n s hI=>?_) n h
 refine (show PX (Qo prog w) A ((compTurn (.ListComp elt [⟨target,iter,ifs,0⟩] scope pos) 0 it acc env).onRaise (fun x=>do noteFrame x env; theTreesLotGoes x)) _ _ s from wpAny_noted ?_)
 rw[compTurn_list]
 refine Pn (wpAny_standAt (Pn (Sv (turn n s hI) (fun r s₁ h₁=>?_) no)))
 cases r with
 | none=>exact Py h₁
 | some v =>
  refine Pn (Sv h₁ (fun _ s₀ h₀=>Pn (Sv h₀ (fun _ s₂ h₂=>Pn (Sv h₂ (fun ok s₃ h₃=>?_) no)) no)) no)
  cases ok with
  | false=>exact Py ⟨rfl,h₃⟩
  | true=>exact Pn (Pn (Sv h₃ (fun x s₄ h₄=>Pn (Sv h₄ (fun _ s₅ h₅=>Py (Py ⟨rfl,h₅⟩)) no)) no))
def f9 (D:Addr) (σ0:St) (J:It) (g:TG) (tt:TT) (te:TE) (H1:Hp) (Q:Hp->Prop):Prop :=
 ∃ W:Nat->Nat->List V->St->Hp->Prop,(∃ m,W 0 m [] σ0 (upd H1 D (.lst []))) ∧
  ∀ i m ys σ' H',W i m ys σ' H'->H' D=some (.lst ys)/\((J.stop i H'/\Q H')∨(J.go i H'/\∃ N:List V->St->Hp->Prop,(∀ zs σ2 H2,N zs σ2 H2->∃ m',m' < m/\W (i+1) m' zs σ2 H2) ∧
   ∀ x H2,J.yld i H' x H2->g x σ' H2 fun σ3 H3=>tt σ3 H3 fun b H4=>if b=true then te σ3 H4 fun y H5=>H5 D=some (.lst ys)/\ys.length < sizeLine/\N (ys++[y]) σ3 (upd H5 D (.lst (ys++[y]))) else N ys σ3 H4))
def Lh (n:Nat) (cap:List Nat) (σ:St):St:=Qd n none++cap.map fun i=>(σ[i]?).join
def Nh (n:Nat) (cap:List Nat) (wi:TI) (g:TG) (tt:TT) (te:TE):TE:=fun σ H Q=>wi σ H fun J H1=>∀ D,H1 D=none->f9 D (Lh n cap σ) J g tt te H1 fun H2=>Q (.ref D) H2
section
variable {X:Cx} {elt tg iter:Expr} {ifs:List Expr} {scope:Ve} {pos:Vk} {L F:List Rr} {cap:List Nat} {wi:TI} {g:TG} {tt:TT} {te:TE}
theorem Ax {pins:List (Addr × Tq)} {σ:St} {H:Hp} {s:Pu} (I:Inv X pins σ H s) {b:Addr} (h1:b≠X.env.locals) (h2:b ∉ X.fs):b ∉ frs X.stack:=fun z=>(List.mem_cons.mp (I.Bv b z)).elim h1 h2
theorem yx {cl:List (Rr × Addr)} {pins:List (Addr × Tq)} {σ:St} {H:Hp} {s:Pu} {fp:List Addr} {h₁:Q7} {tk:Nat} (ok:rE X scope F cap) (I:Inv X pins σ H s) (hfp:∀ b∈fp,uW X pins H b/\b < s.heap.objs.size)
  (sub:∀ n c,cl.lookup n=some c->X.env.cells.lookup n=some c) (all:∀ y∈scope.names,y.2 = .free->∃ c,cl.lookup y.1=some c)
  (ns:h₁.Ns s.heap.objs.size fun _=>none) (kp:∀ b o,s.heap.get? b=some o->h₁.get? b=some o) :
  Inv (dD X scope cl s.heap.objs.size (L++F) s H fp) [] (Lh L.length cap σ) H { s with heap:=h₁,toks:=tk }:=by
 have frk:∀ x,scope.names.lookup x=some .free->X.env.kindOf x=some .cell∨X.env.kindOf x=some .free:=fun x e=>ok.fr (x,.free) (RN e) rfl
 have okX:(dD X scope cl s.heap.objs.size (L++F) s H fp).Ok:=by
  refine⟨I.ok.mod,ok.kind,I.ok.glob,I.ok.blt,PK _,fun x y c e1 e2=>I.ok.inj x y c (sub x c e1) (sub y c e2),fun x hx=>?_,fun x c hx _=>?_,I.ok.hd,I.ok.frames,.inl rfl,fun b hb=>?_,I.bs,Q0 I.ok.bsz I.sz,fun b o e hb=>?_,fun b hb=>?_,I.stack,I.Cy⟩
  ·have e:scope.names.lookup x=some .free:=by
    rcases hx with hx | hx
    ·rcases uA (env:=X.env) (show _=some W3 from hx) with e | e
     ·exact absurd rfl (ok.cell _ (RN e))
     ·exact e
    ·rcases uA (env:=X.env) (show _=some R5 from hx) with e | e <;> exact e
   exact all (x,.free) (RN e) rfl
  ·exact absurd (show false=true from hx) PQ
  ·exact⟨Qq (hfp b hb).2,fun x c e=>(hfp b hb).1.2.2.2.2.1 x c (sub x c e)⟩
  ·obtain⟨_,_,_,f3,_⟩:=(hfp b hb).1
   rcases f3 with z | z
   ·exact I.ok.noex b o e z
   ·exact absurd (Ql (Qa e) (Q0 I.ok.bsz z)) (SX _)
  ·obtain⟨_,f1,f2,_⟩:=(hfp b hb).1
   exact Ax I f1 f2
 refine⟨okX,rfl,I.bare,Un.kept kp,⟨_,ns,fun i x v e1 e2 e3=>?_⟩,fun x c e=>?_,I.hok.fresh (PK _),fun x c e=>I.freeC x c (sub x c e),fun p hp=>absurd (show p∈([]:List (Addr × Tq)) from hp) (by simp),I.hok.kept kp,?_⟩
 ·have e1:(L++F)[i]? = some x:=e1
  have e2:(Qd L.length none++cap.map fun i=>(σ[i]?).join)[i]? = some (some v):=e2
  have hL:¬ i < L.length:=fun hi=>by
   rw[List.getElem?_append_left (by simpa using hi),TQ] at e2
   split at e2 <;> cases e2
  have hi:L.length<=i:=Nat.le_of_not_lt hL
  rw[V5 hi] at e1
  rw[V5 (by simpa using hi),Rf,Qj] at e2
  obtain⟨j,hj,hN,hk⟩:=ok.at' _ _ e1
  rw[hj] at e2
  have e4:(σ[j]?).join=some v:=by simpa using e2
  have e5:σ[j]? = some (some v):=by
   cases q:σ[j]? with
   | none=>rw[q] at e4; cases e4
   | some a=>rw[q] at e4; exact congrArg some e4
  obtain⟨m,hn,hl⟩:=I.loc
  have kd:=frk x hk
  obtain⟨u,r,lk⟩:=hl j x v hN e5 (kd.elim (fun z=>.inr (.inl z)) fun z=>.inr (.inr z))
  obtain⟨c,hc,hcell⟩:∃ c,X.env.cells.lookup x=some c/\s.heap.IsCell c (some u):=by
   rcases lk with⟨z,_⟩ | ⟨_,c,z1,z2⟩
   ·rcases kd with y | y <;> (rw[y] at z; cases z)
   ·exact⟨c,z1,z2⟩
  obtain⟨c',hc'⟩:=all (x,.free) (RN hk) rfl
  have ec:c'=c:=by
   have:=sub x c' hc'
   rw[hc] at this
   exact (QC this).symm
  subst ec
  obtain⟨o,ho,hd⟩:=hcell
  exact⟨u,r,.inr ⟨(Ag (env:=X.env) hk),c',hc',o,kp _ _ ho,hd⟩⟩
 ·obtain⟨v,o,ho,hd⟩:=I.cell x c (sub x c e)
  exact⟨v,o,kp _ _ ho,hd⟩
 ·show (Qd L.length (none:Option V)++cap.map fun i=>(σ[i]?).join).length=(L++F).length
  rw[Qf,Qf,Rf,Pq,ok.len]
theorem xF {cl:List (Rr × Addr)} {pins:List (Addr × Tq)} {σ:St} {s2:Pu} {H2:Hp} {it:Addr} {fp:List Addr} {tn:Nat->Q7->Prop} {J:It} {use:Option (Value->Sem Unit)} {QQ:Value->Pu->Prop} {Z:Hp->Prop} {E:Value->Pu->Prop}
  (hc:X.calm=true) (ok:rE X scope F cap)
  (sub:∀ n c,cl.lookup n=some c->X.env.cells.lookup n=some c) (all:∀ y∈scope.names,y.2 = .free->∃ c,cl.lookup y.1=some c)
  (hg:∀ cl C s H fp,PG (dD X scope cl C (L++F) s H fp) tg g) (ht:∀ cl C s H fp,PTs (dD X scope cl C (L++F) s H fp) ifs tt) (he:∀ cl C s H fp,PE (dD X scope cl C (L++F) s H fp) elt te)
  (I2:Inv X pins σ H2 s2) (T:Turn X.prog X.w X.K tg J fp it tn) (st2:tn 0 s2.heap) (f2:∀ b∈fp,uW X pins H2 b)
  (q2:f9 s2.heap.objs.size (Lh L.length cap σ) J g tt te H2 Z)
  (fin:∀ (C:Addr) (s':Pu) (H':Hp),Z H'->Inv X pins σ H' s'->(∃ m,s'.heap.Ns C m)->H' C=none->C≠X.env.locals->X.s₀.heap.objs.size<=C->(∀ x c,X.env.cells.lookup x=some c->c≠C)->(∀ p∈X.pn++pins,p.1≠C) →
   compPost (Qo X.prog X.w) X.A E use QQ (.ref s2.heap.objs.size) C (.ok .next) s') :
  PX (Qo X.prog X.w) X.A (newList []) (fun acc s₃=>PX (Qo X.prog X.w) X.A (newFunctionEnv scope X.env.globals cl [] X.env.qual none .none (some X.env)) (fun cenv s₄ =>
   UJ (Qo X.prog X.w) X.A (.compStart (.ListComp elt [⟨tg,iter,ifs,0⟩] scope pos) 0 (.ref it) acc { cenv with scope:=relabel scope X.env }) (compPost (Qo X.prog X.w) X.A E use QQ acc cenv.locals) s₄) E s₃) E s2:=by
 have hD:H2 s2.heap.objs.size=none:=I2.fresh
 refine QD (wpAny_newFunctionEnv ok.cell (by intro y hy; simp at hy) (fun h₁ hns₁ hsb₁=>?_) ok.kind)
 dsimp only at hns₁ hsb₁ ⊢
 have I3:Inv X pins σ (upd H2 s2.heap.objs.size (.lst [])) { s2 with heap:=s2.heap.push { cls:=.type "list",data:=.seq ([]:List Value).toArray } }:=I2.M6 (t':=s2.toks) (ys:=[]) (its:=[]) .nil (Qw _)
 have blt:∀ b∈fp,b < s2.heap.objs.size:=fun b hb=>let ⟨_,e,_⟩:=T.obj 0 _ st2 b hb; Qa e
 have szC:(s2.heap.push { cls:=.type "list",data:=.seq ([]:List Value).toArray }).objs.size=s2.heap.objs.size+1:=Q3 _ _
 generalize hs3:({ s2 with heap:=s2.heap.push { cls:=.type "list",data:=.seq ([]:List Value).toArray } }:Pu)=s3 at I3
 have es3:s3.heap=s2.heap.push { cls:=.type "list",data:=.seq ([]:List Value).toArray }:=by rw[← hs3]
 have eos:s3.os=s2.os:=by rw[← hs3]
 have fok:∀ b∈fp,uW X pins (upd H2 s2.heap.objs.size (.lst [])) b/\b < s3.heap.objs.size:=fun b hb=>by
  obtain⟨f0,fr⟩:=f2 b hb
  refine⟨⟨by rw[bx (Qq (blt b hb))]; exact f0,fr⟩,?_⟩
  rw[es3,szC]
  exact Rv (blt b hb)
 have hkp:∀ b o,s3.heap.get? b=some o->h₁.get? b=some o:=fun b o e=>by
  have e':b < s3.heap.objs.size:=Qa e
  rw[es3] at e e'
  exact (hsb₁.2 b (Qq e')).trans (Pr _ e)
 have hns:h₁.Ns s3.heap.objs.size fun _=>none:=by
  rw[es3]
  exact hns₁
 have I4:∀ tk,Inv (dD X scope cl s3.heap.objs.size (L++F) s3 (upd H2 s2.heap.objs.size (.lst [])) fp) [] (Lh L.length cap σ) (upd H2 s2.heap.objs.size (.lst [])) { s3 with heap:=h₁,toks:=tk }:=fun tk =>
  yx (L:=L) ok I3 fok sub all hns hkp
 have stat:∀ {H':Hp},(∀ b∈fp,H' b=none)->∀ b∈fp,uW (dD X scope cl s3.heap.objs.size (L++F) s3 (upd H2 s2.heap.objs.size (.lst [])) fp) [] H' b:=fun {H'} hn b hb=>by
  obtain⟨⟨_,g1,g2,g3,g4,g5⟩,g6⟩:=fok b hb
  exact⟨hn b hb,Qq g6,Ax I3 g1 g2,.inl hb,fun x c e=>g4 x c (sub x c e),fun p hp=>absurd (show p∈([]:List (Addr × Tq)) from hp) (by simp)⟩
 have loop:∀ tk,UJ (Qo X.prog X.w) X.A (.compLoop (.ListComp elt [⟨tg,iter,ifs,0⟩] scope pos) 0 (.ref it) (.ref s2.heap.objs.size) (compEnvC scope cl s3.heap.objs.size X.env))
   (compPost (Qo X.prog X.w) X.A E use QQ (.ref s2.heap.objs.size) s3.heap.objs.size) { s3 with heap:=h₁,toks:=tk }:=fun tk=>by
  obtain⟨W,⟨m0,w0⟩,turn⟩:=q2
  have st3:tn 0 h₁:=T.keep 0 _ _ st2 fun b hb o e=>hkp b o (by rw[es3]; exact Pr _ e)
  refine yG (fun n s'=>∃ i ys σ' H',Inv (dD X scope cl s3.heap.objs.size (L++F) s3 (upd H2 s2.heap.objs.size (.lst [])) fp) [] σ' H' s'/\tn i s'.heap/\(∀ b∈fp,H' b=none)/\W i n ys σ' H') ?_ m0
   ⟨0,[],_,_,I4 tk,st3,fun b hb=>(fok b hb).1.1,w0⟩
  rintro n s5 ⟨i,ys,σ5,H5,I5,st5,fr5,w5⟩
  obtain⟨hDl,alt⟩:=turn i n ys σ5 H5 w5
  rcases alt with⟨stop,qz⟩ | ⟨go,N,hN,step⟩
  ·refine thn (T.done (dD X scope cl s3.heap.objs.size (L++F) s3 (upd H2 s2.heap.objs.size (.lst [])) fp) rfl rfl rfl hc i [] s5 σ5 H5 _ I5 (stat fr5) st5 stop) fun r s6 ⟨hr,I6⟩=>?_
   subst hr
   have un:Un (frs X.stack) fp H2 H5 s2.heap s6.heap:=by
    have u1:Un (frs X.stack) fp H2 (upd H2 s2.heap.objs.size (.lst [])) s2.heap s3.heap:=by
     rw[es3]
     exact Un.laid (fun _ _ q=>Pr _ q) (PK _) hD
    exact u1.trans I6.base
   have J1:Inv X pins σ H5 s6:=I2.call' (I6.os.trans eos) un I6.hok I6.bare fun b hb=>by
    obtain⟨_,g1,_,g3,g4,g5⟩:=f2 b hb
    exact⟨g3,g1,g4,g5⟩
   have hC:s2.heap.objs.size<=s3.heap.objs.size:=by rw[es3,szC]; exact Ti _
   obtain⟨m,hm,_⟩:=I6.loc
   refine fin s3.heap.objs.size s6 H5 qz J1 ⟨m,hm⟩ I6.free (RV (Ql I2.lt hC)) (Q0 I2.sz hC) (fun x c e z=>?_) (fun p hp z=>?_)
   ·obtain⟨v,q⟩:=I2.cell x c e
    exact absurd (Ql q.lt (by rw[z]; exact hC)) (SX _)
   ·exact absurd (Ql (Qa (I2.pin p hp).1) (by rw[z]; exact hC)) (SX _)
  ·refine thn (T.item (dD X scope cl s3.heap.objs.size (L++F) s3 (upd H2 s2.heap.objs.size (.lst [])) fp) rfl rfl rfl hc i [] s5 σ5 H5 _ I5 (stat fr5) st5 go) fun r s6 ⟨u,hr,h6⟩=>?_
   subst hr
   refine thn h6 fun _ s7 ⟨x,H7,I7,r7,y7,st7,fr7⟩=>?_
   have I7':=I7.pinned (stat fr7) (T.obj _ _ st7)
   refine thn (hg _ _ _ _ _ _ s7 σ5 H7 x u _ I7' r7 (step x H7 y7)) fun _ s8 ⟨σ8,H8,I8,q8⟩=>?_
   have again:∀ {σ9:St} {H9:Hp} {s9:Pu} {zs:List V},Inv (dD X scope cl s3.heap.objs.size (L++F) s3 (upd H2 s2.heap.objs.size (.lst [])) fp) ([]++sS fp s7.heap) σ9 H9 s9->N zs σ9 H9 →
     ∃ m,m < n/\∃ i ys σ' H',Inv (dD X scope cl s3.heap.objs.size (L++F) s3 (upd H2 s2.heap.objs.size (.lst [])) fp) [] σ' H' s9/\tn i s9.heap/\(∀ b∈fp,H' b=none)/\W i m ys σ' H':=fun {σ9 H9 s9 zs} I9 n9=>by
    obtain⟨m',hm,w9⟩:=hN zs σ9 H9 n9
    refine⟨m',hm,i+1,zs,σ9,H9,I9.lW,T.keep _ _ _ st7 fun b hb o e=>(I9.pin (b,o) (Rq _ (Rq _ (iJ hb e)))).1,fun b hb=>?_,w9⟩
    obtain⟨o,e,d⟩:=T.obj _ _ st7 b hb
    exact (I9.pin (b,o) (Rq _ (Rq _ (iJ hb e)))).2.1
   refine thn (ht _ _ _ _ _ _ s8 σ8 H8 _ I8 q8) fun okb s9 ⟨H9,I9,q9⟩=>?_
   cases okb with
   | false =>
    rw[if_neg PQ] at q9 ⊢
    exact again I9 q9
   | true =>
    rw[if_pos rfl] at q9 ⊢
    refine thn (he _ _ _ _ _ _ s9 σ8 H9 _ I9 q9) fun y s10 ⟨yv,H10,I10,r10,e10,z10,n10⟩=>?_
    refine thn (cM _ s10 σ8 H10 (.ref s2.heap.objs.size) [yv] (.ref s2.heap.objs.size) [y] (fun _ H'=>N (ys++[yv]) σ8 H') I10 rfl (.cons r10 .nil) ⟨_,ys,yv,rfl,rfl,e10,z10,n10⟩) fun _ s11 ⟨_,H11,I11,_,n11⟩=>?_
    exact again I11 n11
 have eC:(s2.heap.push { cls:=.type "list",data:=.seq ([]:List Value).toArray }).objs.size=s3.heap.objs.size:=by rw[es3]
 have goal:∀ tk,UJ (Qo X.prog X.w) X.A (.compStart (.ListComp elt [⟨tg,iter,ifs,0⟩] scope pos) 0 (.ref it) (.ref s2.heap.objs.size) (compEnvC scope cl s3.heap.objs.size X.env))
   (compPost (Qo X.prog X.w) X.A E use QQ (.ref s2.heap.objs.size) s3.heap.objs.size) { s3 with heap:=h₁,toks:=tk }:=fun tk =>
  codeAny_compStart_list (loop tk) (T.self _ 0 _ _ _ (T.keep 0 _ _ st2 fun b hb o e=>hkp b o (by rw[es3]; exact Pr _ e)) (loop tk))
 have g0:=goal (s2.toks+([]:List (Rr × Value)).length)
 subst hs3
 exact g0
theorem bA (hc:X.calm=true) (ok:rE X scope F cap) (hi:PI X tg iter wi)
  (hg:∀ cl C s H fp,PG (dD X scope cl C (L++F) s H fp) tg g) (ht:∀ cl C s H fp,PTs (dD X scope cl C (L++F) s H fp) ifs tt) (he:∀ cl C s H fp,PE (dD X scope cl C (L++F) s H fp) elt te)
  (hs:∀ x,Xf iter X.env x=pure x:=by intro _; rfl):PE X (.ListComp elt [⟨tg,iter,ifs,0⟩] scope pos) (Nh L.length cap wi g tt te):=by
 intro pins s σ H Q I h
 obtain⟨cl,e1,e2,e3⟩:=Dp (scope:=scope) (env:=X.env) (fun y hy hf=>I.ok.has _ (ok.fr y hy hf))
 rw[eval_ListComp]
 refine wpAny_comprehension_free (use:=none) rfl hs e1 ok.kind ok.nms (thn (hi pins s σ H _ I h) fun v s1 h1=>thn h1 fun itv s2 h2=>?_)
 obtain⟨it,fp,tn,J,H2,e,I2,T,st2,f2,q2⟩:=h2
 subst e
 refine xF (Z:=fun H'=>Q (.ref s2.heap.objs.size) H') hc ok e2 e3 hg ht he I2 T st2 f2 (q2 _ I2.fresh) fun C s' H' z J m hCf hCl hCs hCc hCp=>?_
 ·obtain⟨m,hm⟩:=m
  exact⟨m,hm,fun h' hs'=>⟨.ref _,H',J.turned (t':=s'.toks) (fun b o hb e=>(hs'.2 b hb).trans e) hCf hCl (.inr hCs) hCc hCp,rfl,z⟩⟩
def KH (n:Nat) (cap:List Nat) (wi:TI) (g:TG) (tt:TT) (te:TE) (j:Nat):TS:=fun D σ H=>wi σ H fun J H1=>∀ d,H1 d=none->f9 d (Lh n cap σ) J g tt te H1 fun H2=>D.nx (σ.set j (some (.ref d))) H2
theorem zj {j:Nat} {y:Rr} {py spos:Vk} (hN:X.N.Nodup) (hj:X.N[j]? = some y) (hy:Loc X.env.scope y) (hc:X.calm=true) (ok:rE X scope F cap) (hi:PI X tg iter wi)
  (hg:∀ cl C s H fp,PG (dD X scope cl C (L++F) s H fp) tg g) (ht:∀ cl C s H fp,PTs (dD X scope cl C (L++F) s H fp) ifs tt) (he:∀ cl C s H fp,PE (dD X scope cl C (L++F) s H fp) elt te)
  (hsw:swapsWith (.ListComp elt [⟨tg,iter,ifs,0⟩] scope pos) (some (.Name y py)) spos.line X.env=pure true:=by rfl)
  (hs:∀ x,Xf iter X.env x=pure x:=by intro _; rfl) (hf:X.fn y=true∨X.env.scope.names.lookup y=some .local:=by first | exact .inl rfl | exact .inr rfl | assumption) :
  PS X (.Assign [.Name y py] (.ListComp elt [⟨tg,iter,ifs,0⟩] scope pos) spos) (KH L.length cap wi g tt te j):=by
 intro pins s σ H D I h
 obtain⟨cl,e1,e2,e3⟩:=Dp (scope:=scope) (env:=X.env) (fun y hy hf=>I.ok.has _ (ok.fr y hy hf))
 rw[exec_Assign_Name_used _ _ _ _ hsw]
 refine Pn (wpAny_standAt (Pn ?_))
 show PX (Qo X.prog X.w) X.A (do let _ ← comprehension (.ListComp elt [⟨tg,iter,ifs,0⟩] scope pos) scope X.env _ (newList []) false (S6 iter X.env) (some (assign (.Name y py) X.env))) _ _ s
 refine Pn (Sv (wpAny_comprehension_free (use:=some (assign (.Name y py) X.env)) (Q:=fun _ s'=>SP X pins D .next s') rfl hs e1 ok.kind ok.nms
  (thn (hi pins s σ H _ I h) fun v s1 h1=>thn h1 fun itv s2 h2=>?_)) (fun _ s' hq=>Py (Py hq)) fun _ _ e=>e)
 obtain⟨it,fp,tn,J,H2,e,I2,T,st2,f2,q2⟩:=h2
 subst e
 refine xF (Z:=fun H'=>D.nx (σ.set j (some (.ref s2.heap.objs.size))) H') hc ok e2 e3 hg ht he I2 T st2 f2 (q2 _ I2.fresh) fun C s' H' z J m hCf hCl hCs hCc hCp=>?_
 obtain⟨m,hm⟩:=m
 refine wpAny_assign_Name (qZ J hN hj hy (v:=.ref s2.heap.objs.size) rfl (fun s5 I5 hs5=>?_) hf)
 obtain⟨a,sb,ha⟩:=hs5
 have hne:C≠a:=by
  rcases ha with rfl | ha
  ·exact hCl
  ·exact Tu (hCc y a ha)
 exact⟨m,hm.sameBut sb hne,fun h' hs'=>⟨_,H',I5.turned (t':=s5.toks) (fun b o hb e=>(hs'.2 b hb).trans e) hCf hCl (.inr hCs) hCc hCp,z⟩⟩
end
end L2
namespace L2
open PySem PySem.Spec PyProof.Rows
structure Df (P:Qt) (w:QF) (K:Qe) (mg:Rr->Option Value) (base:Q7) (x:Rr) (k:Nat) (ps:List Rr) (sp:Sp):Prop where
 ex:∃ (f:Addr) (fd:Ui),eX P w K mg base CX0 k f fd ps sp/\mg x=some (.ref f)/\V2 K (.ref f)=true/\Binds K fd ps []
section
variable {X:Cx} {k j:Nat} {x:Rr} {ps:List Rr} {sp:Sp} {p pos:Vk} {e:Expr} {es:List Expr} {t:TA}
theorem aY (D:Df X.prog X.w X.K X.mg X.base x k ps sp) (hr:oG j X.A) (ha:PA X (e::es) t) (hk:k<=j:=by first | decide | exact PK _ | lia) (hg:Gl X x:=by rfl)
  (hdb:(x == ("__debug__" : Rr))=false:=by decide) (he:Qv (e::es) X.env=(false,S6 e X.env)::Qv es X.env:=by rfl) (hpl:(Ul pos (Qv es X.env)).any (·.1)=false:=by rfl) :
  PE X (.Call (.Name x p) (e::es) [] pos) (Mx sp [] E0 t):=by
 obtain⟨f,fd,F,hm,hkp,hb⟩:=D.ex
 exact IW F (hr.mono hk) hg hm hkp hb .nil NQ ha hdb he hpl
theorem oF {T:String} (hm:X.mg x=none) (hv:QZ x=some (.type T)) (hg:Gl X x:=by rfl) (hn:x≠"__name__":=by decide) (hd:(x == ("__debug__" : Rr))=false:=by decide):PE X (.Name x pos) (tC (.ty T)):=J8 hg hm hv rfl hn hd
inductive Lf (K:Qp) (xs:List V) (H:Hp) (Q:VK):Prop where
 | mk (x:V) (T:String) (t:Value) (b:Bool) (z0:xs=[x,.ty T]) (z1:yV K H x t) (z2:U4 K t (.type T)=some b) (z3:Q (.bl b) H):Lf K xs H Q
def zV (K:Qp):List V->Hp->VK->Prop:=fun xs H Q=>Lf K xs H Q
theorem eO:ik X (.builtin "isinstance") (zV X.K):=by
 intro pins s σ H xs us Q I r h
 obtain⟨x,T,t,b,rfl,ty,e,q⟩:=h
 obtain⟨u,v,rfl,ru,rv⟩:=vals2 r
 cases (show v=Ub T from rv)
 exact Bc I ru ty e fun tk=>⟨.bl b,H,I.tok tk,rfl,q⟩
def yR (K:Qp):List V->Hp->VK->Prop:=fun xs H Q=>∃ (p:Addr) (ys:List V),xs=[.ref p]/\(SqL K H p ys∨SqT K H p ys)/\Q (.int ys.length) H
theorem cI:ik X (.builtin "len") (yR X.K):=qO
def BJ (K:Qp):List V->Hp->VK->Prop:=fun xs H Q=>∃ (p:Addr) (ys:List V),xs=[.ref p]/\(SqL K H p ys∨SqT K H p ys)/\∀ l,H l=none->Q (.ref l) (upd H l (.lst ys))
theorem yQ:ik X (.type "list") (BJ X.K):=rH
def fB (K:Qp):List V->Hp->VK->Prop:=fun xs H Q=>∃ (p:Addr) (ys:List V),xs=[.ref p]/\((SqL K H p ys/\∀ l,H l=none->Q (.ref l) (upd H l (.tup ys)))∨(SqT K H p ys/\Q (.ref p) H))
theorem bB:ik X (.type "tuple") (fB X.K):=pI
theorem iR:∀ bs:List Bool,(PL bs.length).all (fun i=>bs.getD i true)=bs.all fun b=>b
 | []=>rfl
 | b::r=>by
  have ih:=iR r
  rw[Qk,List.range_succ_eq_map,Vr,List.all_map,Vr,← ih]
  rfl
inductive G8 (K:Qp) (xs:List V) (H:Hp) (Q:VK):Prop where
 | mk (p:Addr) (bs:List Bool) (z0:xs=[.ref p]) (z1:SqL K H p (bs.map V.bl)) (z2:Q (.bl (bs.all fun b=>b)) H):G8 K xs H Q
def JV (K:Qp):List V->Hp->VK->Prop:=fun xs H Q=>G8 K xs H Q
theorem tZ (hc:X.calm=true):ik X (.builtin "all") (JV X.K):=by
 intro pins s σ H xs us Q I r h
 obtain⟨p,bs,rfl,hq,q⟩:=h
 obtain⟨u,rfl,ru⟩:=vals1 r
 cases ru
 obtain⟨its,rv,pl,hz⟩:=I.list hq
 have hlen:bs.length=its.length:=by simpa using rv.length
 refine call_all_walk (Up pl.isList ?_)
 have I1:Inv X pins σ H { s with heap:=s.heap.push { cls:=.type "list_iterator",data:=.fields #[.ref p,.int 0 0] } }:=I.kept (t':=s.toks) fun b o e=>Pr _ e
 have hne:p≠s.heap.objs.size:=by
  obtain⟨o,ho,_⟩:=pl.isList
  exact Qq (Qa ho)
 refine⟨s.heap.objs.size,_,_,_,_,_,fun i=>bs.getD i true,rfl,Walks.list (A:=X.A.in1) (I.ok.hd hc) s.heap.objs.size p hne its.toArray,⟨⟨_,PB _ rfl,rfl,rfl⟩,?_⟩,?_,fun h' tk hk=>?_⟩
 ·obtain⟨o,ho,hr⟩:=pl.isList
  exact⟨o,Pr _ ho,hr⟩
 ·intro i v s' Q' E' hP hQ
  have hP:its[i]? = some v:=by simpa using hP
  have hi:i < bs.length:=by
   rw[hlen]
   exact (List.getElem?_eq_some_iff.mp hP).1
  obtain⟨u',hu',ru'⟩:=rv.get (i:=i) (x:=V.bl bs[i]) (by rw[Qj,Px hi]; rfl)
  rw[hP] at hu'
  cases hu'
  cases (show v=Value.bool bs[i] from ru')
  refine Th ?_
  have eg:bs.getD i true=bs[i]:=by rw[Pz,Px hi]; rfl
  have hQ':Q' (bs.getD i true) s':=hQ
  rw[eg] at hQ'
  exact hQ'
 ·have f:=I.Ef (b:=s.heap.objs.size) (H':=H) (PK _) I.fresh
  have eall:(PL its.toArray.size).all (fun i=>bs.getD i true)=bs.all fun b=>b:=by
   have el:its.toArray.size=bs.length:=by rw[P0,hlen]
   rw[el]
   exact iR bs
  rw[eall]
  exact⟨.bl _,H,I1.turned (t':=tk) (it:=s.heap.objs.size) (fun b o hb e=>hk b o (by simpa using hb) e) f.1 f.2.1 f.2.2.2.1 f.2.2.2.2.1 f.2.2.2.2.2,rfl,q⟩
end
end L2
namespace L2
open PySem PySem.Spec PyProof.Rows
def Bp (osc:Ve) (oN:List Rr) (sc:Ve) (F:List Rr) (cap:List Nat):Bool :=
 decide (sc.kind = .function) && sc.names.all (fun y=>!decide (y.2 = .cell)) && sc.names.all (fun y=>!decide (y.2 = .local) || decide (sc.names.lookup y.1=some .local)) &&
 sc.names.all (fun y=>!decide (y.2 = .free) || decide (osc.names.lookup y.1=some .cell) || decide (osc.names.lookup y.1=some .free)) && decide (cap.length=F.length) &&
 (PL F.length).all fun k=>(decide (F[k]? = none) || decide ((cap[k]?.bind fun i=>oN[i]?)=F[k]?)) && decide ((F[k]?.bind fun x=>sc.names.lookup x)=some .free)
theorem bu {X:Cx} {osc sc:Ve} {oN F:List Rr} {cap:List Nat} (ho:X.env.scope=osc) (hN:X.N=oN) (h:Bp osc oN sc F cap=true):rE X sc F cap:=by
 unfold Bp at h
 simp only[Ru] at h
 obtain⟨⟨⟨⟨⟨h1,h2⟩,h3⟩,h4⟩,h5⟩,h6⟩:=h
 refine⟨of_decide_eq_true h1,fun y hy e=>?_,fun y hy e=>?_,fun y hy e=>?_,of_decide_eq_true h5,fun k x e=>?_⟩
 ·have:=List.all_eq_true.mp h2 y hy
  rw[e] at this
  exact absurd this (by decide)
 ·have:=List.all_eq_true.mp h3 y hy
  rw[decide_eq_true e] at this
  exact of_decide_eq_true (by simpa using this)
 ·have:=List.all_eq_true.mp h4 y hy
  rw[decide_eq_true e] at this
  have z:decide (osc.names.lookup y.1=some .cell)=true∨decide (osc.names.lookup y.1=some .free)=true:=by
   rw[Bool.not_true,W4,X6] at this
   exact this
  show X.env.scope.names.lookup y.1=_∨X.env.scope.names.lookup y.1=_
  rw[ho]
  exact z.elim (fun q=>.inl (of_decide_eq_true q)) fun q=>.inr (of_decide_eq_true q)
 ·have hk:k < F.length:=(List.getElem?_eq_some_iff.mp e).1
  have q:=List.all_eq_true.mp h6 k (List.mem_range.mpr hk)
  rw[e,Ru] at q
  obtain⟨q1,q2⟩:=q
  have q1:(cap[k]?.bind fun i=>oN[i]?)=some x:=by
   rw[X6] at q1
   rcases q1 with z | z
   ·exact absurd (of_decide_eq_true z) (by simp)
   ·exact of_decide_eq_true z
  have q2:sc.names.lookup x=some .free:=of_decide_eq_true q2
  cases hc:cap[k]? with
  | none=>rw[hc] at q1; cases q1
  | some i =>
   rw[hc] at q1
   exact⟨i,rfl,by rw[hN]; exact q1,q2⟩
theorem aO {X:Cx} {scope:Ve} {cl:List (Rr × Addr)} {C:Addr} {N:List Rr} {s:Pu} {H:Hp} {fp:List Addr} (h:N.Nodup):(dD X scope cl C N s H fp).N.Nodup:=h
section
variable {K:Qp} {a D:Addr} {xs:List V} {g:TG} {tt:TT} {te:TE} {H1:Hp} {Q:Hp->Prop} {σ0:St}
theorem fC (Pv:Nat->List V->St->Hp->Prop) (h0:Pv 0 [] σ0 (upd H1 D (.lst []))) (hl:∀ i ys σ H,i<=xs.length->Pv i ys σ H->SqT K H a xs/\H D=some (.lst ys))
  (hs:∀ i ys x σ H,xs[i]? = some x->Pv i ys σ H->g x σ H fun σ3 H3=>tt σ3 H3 fun b H4=>if b=true then te σ3 H4 fun y H5=>H5 D=some (.lst ys)/\ys.length < sizeLine/\Pv (i+1) (ys++[y]) σ3 (upd H5 D (.lst (ys++[y]))) else Pv (i+1) ys σ3 H4)
  (hd:∀ ys σ H,Pv xs.length ys σ H->Q H):f9 D σ0 (Itt K a) g tt te H1 Q:=by
 refine⟨fun i m ys σ H=>m=xs.length - i/\i<=xs.length/\Pv i ys σ H,⟨xs.length,by simp,Qw _,h0⟩,?_⟩
 rintro i m ys σ H ⟨rfl,hi,p⟩
 obtain⟨q,qD⟩:=hl i ys σ H hi p
 refine⟨qD,?_⟩
 by_cases hlt:i < xs.length
 ·refine .inr ⟨⟨xs,xs[i],q,by simp [hlt]⟩,Pv (i+1),fun zs σ' H' p'=>⟨xs.length - (i+1),by lia,rfl,hlt,p'⟩,fun x H' y=>?_⟩
  obtain⟨e,y⟩:=y
  subst e
  exact hs i ys x σ _ (y xs q) p
 ·have e:i=xs.length:=by lia
  subst e
  exact .inl ⟨⟨xs,q,PK _⟩,hd ys σ H p⟩
theorem cH (Pv:Nat->List V->St->Hp->Prop) (h0:Pv 0 [] σ0 (upd H1 D (.lst []))) (hl:∀ i ys σ H,i<=xs.length->Pv i ys σ H->SqL K H a xs/\H D=some (.lst ys))
  (hs:∀ i ys x σ H,xs[i]? = some x->Pv i ys σ H->g x σ H fun σ3 H3=>tt σ3 H3 fun b H4=>if b=true then te σ3 H4 fun y H5=>H5 D=some (.lst ys)/\ys.length < sizeLine/\Pv (i+1) (ys++[y]) σ3 (upd H5 D (.lst (ys++[y]))) else Pv (i+1) ys σ3 H4)
  (hd:∀ ys σ H,Pv xs.length ys σ H->Q H):f9 D σ0 (Itl K a) g tt te H1 Q:=by
 refine⟨fun i m ys σ H=>m=xs.length - i/\i<=xs.length/\Pv i ys σ H,⟨xs.length,by simp,Qw _,h0⟩,?_⟩
 rintro i m ys σ H ⟨rfl,hi,p⟩
 obtain⟨q,qD⟩:=hl i ys σ H hi p
 refine⟨qD,?_⟩
 by_cases hlt:i < xs.length
 ·refine .inr ⟨⟨xs,xs[i],q,by simp [hlt]⟩,Pv (i+1),fun zs σ' H' p'=>⟨xs.length - (i+1),by lia,rfl,hlt,p'⟩,fun x H' y=>?_⟩
  obtain⟨e,y⟩:=y
  subst e
  exact hs i ys x σ _ (y xs q) p
 ·have e:i=xs.length:=by lia
  subst e
  exact .inl ⟨⟨xs,q,PK _⟩,hd ys σ H p⟩
theorem dm {lo:Int} {n:Nat} (Pv:Nat->List V->St->Hp->Prop) (h0:Pv 0 [] σ0 (upd H1 D (.lst []))) (hl:∀ i ys σ H,i<=n->Pv i ys σ H->H D=some (.lst ys))
  (hs:∀ i ys σ H,i < n->Pv i ys σ H->g (.int (lo+i)) σ H fun σ3 H3=>tt σ3 H3 fun b H4=>if b=true then te σ3 H4 fun y H5=>H5 D=some (.lst ys)/\ys.length < sizeLine/\Pv (i+1) (ys++[y]) σ3 (upd H5 D (.lst (ys++[y]))) else Pv (i+1) ys σ3 H4)
  (hd:∀ ys σ H,Pv n ys σ H->Q H):f9 D σ0 (Itr lo n) g tt te H1 Q:=by
 refine⟨fun i m ys σ H=>m=n - i/\i<=n/\Pv i ys σ H,⟨n,by simp,Qw _,h0⟩,?_⟩
 rintro i m ys σ H ⟨rfl,hi,p⟩
 refine⟨hl i ys σ H hi p,?_⟩
 by_cases hlt:i < n
 ·refine .inr ⟨hlt,Pv (i+1),fun zs σ' H' p'=>⟨n - (i+1),by lia,rfl,hlt,p'⟩,fun x H' y=>?_⟩
  obtain⟨e,y⟩:=y
  subst e y
  exact hs i ys σ _ hlt p
 ·have e:i=n:=by lia
  subst e
  exact .inl ⟨PK _,hd ys σ H p⟩
end
structure Bt (mg:Rr->Option Value):Prop where
 len_:mg "len" = none
 range_:mg "range" = none
 all_:mg "all" = none
 isinstance_:mg "isinstance" = none
 int_:mg "int" = none
 bool_:mg "bool" = none
 str_:mg "str" = none
 list_:mg "list" = none
 tuple_:mg "tuple" = none
 abs_:mg "abs" = none
 max_:mg "max" = none
 min_:mg "min" = none
 sum_:mg "sum" = none
 sorted_:mg "sorted" = none
 zip_:mg "zip" = none
 reversed_:mg "reversed" = none
 divmod_:mg "divmod" = none
 set_:mg "set" = none
 any_:mg "any" = none
 enumerate_:mg "enumerate" = none
theorem ig:QZ "len" = some (.builtin "len"):=PySem.boot_len
theorem GJ:QZ "all" = some (.builtin "all"):=by decide+kernel
theorem bF:QZ "isinstance" = some (.builtin "isinstance"):=by decide+kernel
theorem rR:QZ "abs" = some (.builtin "abs"):=by decide+kernel
theorem wK:QZ "max" = some (.builtin "max"):=by decide+kernel
theorem GK:QZ "min" = some (.builtin "min"):=by decide+kernel
theorem Lx:QZ "sum" = some (.builtin "sum"):=by decide+kernel
theorem Dk:QZ "int" = some (.type "int"):=by decide+kernel
theorem Ci:QZ "bool" = some (.type "bool"):=by decide+kernel
theorem Gf:QZ "str" = some (.type "str"):=by decide+kernel
theorem vB:QZ "list" = some (.type "list"):=by decide+kernel
theorem bV:QZ "tuple" = some (.type "tuple"):=by decide+kernel
theorem oE (K:Qp) (T:String):U4 K (.type T) (.type T)=some true:=by
 unfold PySem.W.kitOne
 rw[if_pos (beq_self_eq_true _)]
theorem mY (K:Qp):U4 K (.type "int") (.type "bool")=some false:=by kernel_rfl
theorem nu (K:Qp):U4 K (.type "bool") (.type "int")=some true:=by kernel_rfl
theorem yj (K:Qp):U4 K (.type "int") (.type "str")=some false:=by kernel_rfl
theorem uL (K:Qp):U4 K (.type "bool") (.type "str")=some false:=by kernel_rfl
theorem rD (K:Qp):U4 K (.type "tuple") (.type "str")=some false:=by kernel_rfl
theorem vK (K:Qp):U4 K (.type "list") (.type "str")=some false:=by kernel_rfl
theorem rP (K:Qp):U4 K (.type "tuple") (.type "int")=some false:=by kernel_rfl
theorem vV (K:Qp):U4 K (.type "list") (.type "int")=some false:=by kernel_rfl
theorem jJ (K:Qp):U4 K (.type "tuple") (.type "list")=some false:=by kernel_rfl
theorem jE (K:Qp):U4 K (.type "list") (.type "tuple")=some false:=by kernel_rfl
end L2
namespace L2
open PySem PySem.Spec PyProof.Rows
inductive Dm where
 | non | bl (b:Bool) | int (i:Int) | str (x:Rr) | tup (ds:List Dm) | lst (ds:List Dm)
mutual
def Dm.dep:Dm->Nat
 | .tup ds=>n8 ds+1
 | .lst ds=>n8 ds+1
 | _=>0
def n8:List Dm->Nat
 | []=>0
 | d::r=>max d.dep (n8 r)
end
mutual
inductive Rep (H:Hp):V->Dm->Prop where
 | non:Rep H .non .non
 | bl (b:Bool):Rep H (.bl b) (.bl b)
 | int (i:Int):Rep H (.int i) (.int i)
 | str (x:Rr):Rep H (.str x) (.str x)
 | tup {a:Addr} {xs:List V} {ds:List Dm}:H a=some (.tup xs)->xs.length<=100000->pH H xs ds->Rep H (.ref a) (.tup ds)
 | lst {a:Addr} {xs:List V} {ds:List Dm}:H a=some (.lst xs)->xs.length<=100000->pH H xs ds->Rep H (.ref a) (.lst ds)
inductive pH (H:Hp):List V->List Dm->Prop where
 | nil:pH H [] []
 | cons {v:V} {d:Dm} {vs:List V} {ds:List Dm}:Rep H v d->pH H vs ds->pH H (v::vs) (d::ds)
end
mutual
theorem Rep.mono {H H':Hp} (e:aM H H'):∀ {v:V} {d:Dm},Rep H v d->Rep H' v d
 | _,_,.non=>.non
 | _,_,.bl b=>.bl b
 | _,_,.int i=>.int i
 | _,_,.str x=>.str x
 | _,_,.tup h l r=>.tup (e _ _ h) l (pH.mono e r)
 | _,_,.lst h l r=>.lst (e _ _ h) l (pH.mono e r)
theorem pH.mono {H H':Hp} (e:aM H H'):∀ {vs:List V} {ds:List Dm},pH H vs ds->pH H' vs ds
 | _,_,.nil=>.nil
 | _,_,.cons h r=>.cons (Rep.mono e h) (pH.mono e r)
end
theorem pH.length {H:Hp}:∀ {vs:List V} {ds:List Dm},pH H vs ds->vs.length=ds.length
 | _,_,.nil=>rfl
 | _,_,.cons _ r=>by rw[Qk,Qk,pH.length r]
theorem pH.get {H:Hp}:∀ {vs:List V} {ds:List Dm} {i:Nat},pH H vs ds->i < vs.length->∃ v d,vs[i]? = some v/\ds[i]? = some d/\Rep H v d
 | _,_,_,.nil,h=>absurd h (Vz _)
 | _,_,0,.cons h _,_=>⟨_,_,rfl,rfl,h⟩
 | _,_,i+1,.cons _ r,h=>by
  obtain⟨v,d,e1,e2,e3⟩:=pH.get (i:=i) r (Wv h)
  exact⟨v,d,by simpa using e1,by simpa using e2,e3⟩
theorem qt:∀ {ds:List Dm} {i:Nat} {d:Dm},ds[i]? = some d->d.dep<=n8 ds
 | [],_,_,h=>by simp at h
 | d::r,0,_,h=>by
  cases (show some d=some _ from h)
  rw[n8]
  exact Nat.le_max_left _ _
 | d::r,i+1,_,h=>by
  rw[n8]
  exact Q0 (qt (i:=i) (ds:=r) (by simpa using h)) (Nat.le_max_right _ _)
theorem nW {H:Hp}:∀ ns:List Int,pH H (ns.map V.int) (ns.map Dm.int)
 | []=>.nil
 | n::r=>.cons (.int n) (nW r)
section
variable {X:Cx}
inductive K7 (K:Qp) (x:V) (y:V) (H:Hp) (Q:VK):Prop where
 | mk (a b:Addr) (xs:List V) (z0:x = .ref a) (z1:y = .ref b) (z2:SqL K H a xs) (z3:SqL K H b []) (z4:Q (.bl xs.isEmpty) H):K7 K x y H Q
def Oo (K:Qp):R2:=fun x y H Q=>K7 K x y H Q
theorem Ls (hu:X.A.units < cLine):OpR X (S7 .Eq) (Oo X.K):=by
 intro pins s σ H x y v u Q I rx ry h
 obtain⟨a,b,xs,rfl,rfl,ha,hb,q⟩:=h
 cases rx
 cases ry
 obtain⟨its,r1,p1,_⟩:=I.list ha
 obtain⟨its2,r2,p2,_⟩:=I.list hb
 cases r2
 cases r1 with
 | nil=>exact SeqAt.eq_listAt (e:=fun _=>true) p1.isList p2.isList rfl hu (fun j h1 _=>absurd h1 (by simp)) ⟨.bl true,H,I,rfl,q⟩
 | cons r t=>exact SeqAt.eq_list_lengthsAt p1.isList p2.isList (by simp) hu ⟨.bl false,H,I,rfl,q⟩
end
end L2
namespace L2
open PySem PySem.Spec PyProof.Rows
section
variable {prog:Qt} {w:QF} {A:QG} {E:Value->Pu->Prop} {s:Pu}
theorem nO {it t:Addr} {i:Nat} {its:Array Value} {x:Value} {Q:Value->Pu->Prop} (j:s.heap.IsTupleIter it t i) (ht:s.heap.IsTuple t its) (hx:its[i]? = some x)
  (k:∀ h',h'.IsTupleIter it t (i+1)->R9 it s.heap h'->Q x { s with heap:=h' }):PX (Qo prog w) A (QM (.ref it)) Q E s:=by
 obtain⟨o,e1,c1,d1⟩:=id j; obtain⟨o2,e2,_,n2,d2⟩:=ht; unfold QM
 refine Pn (QW (name:=R7 "__next__") j.typeIs Uy (Q6 Uy j.typeIs Yb ?_ (X5 _)))
 show PX _ _ (W0 (.ref it) 0 >>= _) _ _ s; refine Pn (QS e1 d1 (x:=.ref t) rfl ?_)
 show PX _ _ (if (QK t == QT)=true then _ else _) _ _ s; rw[if_neg (show ¬ ((QK t == QT)=true) from PQ)]
 show PX _ _ (W0 (.ref it) 1 >>= _) _ _ s; refine Pn (QS e1 d1 (x:=.int i 0) rfl ?_)
 show PX _ _ (Wk (.ref t) >>= _) _ _ s; refine Pn (Q8 e2 d2 ?_); simp only[Qx,hx]
 refine Pn (R6 e1 d1 (by simp) (Py ⟨x,rfl,Py (k _ ?_ (Rj ..))⟩))
 exact⟨_,Q4 _ e1 (Obj.isFreed_of_fields (Obj.data_mapFields d1 _)),(Obj.cls_mapFields ..).trans c1,by rw[Obj.data_mapFields d1]; simp [RB]⟩
theorem Gg {it t:Addr} {i:Nat} {its:Array Value} {Q:Value->Pu->Prop} (hh:A.handled=none) (j:s.heap.IsTupleIter it t i) (ht:s.heap.IsTuple t its) (hx:its[i]? = none)
  (k:∀ h' e,Heap.ExtBut it s.heap h'->(∃ o,h'.get? e=some o/\o.cls = .type "StopIteration")->E (.ref e) { s with heap:=h' }):PX (Qo prog w) A (QM (.ref it)) Q E s:=by
 obtain⟨o,e1,c1,d1⟩:=id j; obtain⟨o2,e2,_,n2,d2⟩:=ht; unfold QM
 refine Pn (QW (name:=R7 "__next__") j.typeIs Uy (Q6 Uy j.typeIs Yb ?_ (X5 _)))
 show PX _ _ (W0 (.ref it) 0 >>= _) _ _ s; refine Pn (QS e1 d1 (x:=.ref t) rfl ?_)
 show PX _ _ (if (QK t == QT)=true then _ else _) _ _ s; rw[if_neg (show ¬ ((QK t == QT)=true) from PQ)]
 show PX _ _ (W0 (.ref it) 1 >>= _) _ _ s; refine Pn (QS e1 d1 (x:=.int i 0) rfl ?_)
 show PX _ _ (Wk (.ref t) >>= _) _ _ s; refine Pn (Q8 e2 d2 ?_); simp only[Qx,hx]
 refine Pn (Ur (Pn (R6 e1 d1 (by simp) ?_))); show PX _ _ (Xz (.type "StopIteration") [] >>= _) _ _ _
 refine Pn ?_; simp only[Xz,newTuple]; refine Pn (QD ?_ (by size_fits))
 refine Pn (m:=TF _ _) (SM (a:=QT) (by first | rfl | (simp only[TF]; rfl)) ?_); refine QD ?_ (by size_fits)
 simp only[raiseNew]; refine Pn (WY ?_); first | rw[show A.in1.handled=none from hh] | rw[hh]
 refine Pn (Py (XN ?_)); exact k _ _ (((Rj ..).extBut.push _).push _) ⟨_,PB _ rfl,rfl⟩
structure Zap (z p q i1 i2 l1 l2:Addr):Prop where
 pz:p≠z
 qz:q≠z
 az:i1≠z
 bz:i2≠z
 pq:p≠q
 pa:p≠i1
 pb:p≠i2
 qa:q≠i1
 qb:q≠i2
 ab:i1≠i2
 xz:l1≠z
 xq:l1≠q
 xa:l1≠i1
 xb:l1≠i2
 yz:l2≠z
 yq:l2≠q
 ya:l2≠i1
 yb:l2≠i2
theorem gY {h h':Q7} {a t:Addr} {its:Array Value} (ht:h.IsTuple t its) (sb:R9 a h h') (ne:t≠a):h'.IsTuple t its:=by
 obtain⟨o,e,r⟩:=ht
 exact⟨o,(sb.2 t ne).trans e,r⟩
theorem cW {h h':Q7} {a it t:Addr} {i:Nat} (ht:h.IsTupleIter it t i) (sb:R9 a h h') (ne:it≠a):h'.IsTupleIter it t i:=by
 obtain⟨o,e,r⟩:=ht
 exact⟨o,(sb.2 it ne).trans e,r⟩
abbrev zA (h:Q7) (t:Addr):Q7:=h.push { cls:=.type "tuple_iterator",data:=.fields #[.ref t,.int 0 0] }
end
theorem Inv.iG {X:Cx} {pins:List (Addr × Tq)} {σ:St} {H:Hp} {s:Pu} {h':Q7} {t':Nat} {ch:List Addr} (I:Inv X pins σ H s) (k:∀ b o,b ∉ ch->s.heap.get? b=some o->h'.get? b=some o) (hf:∀ b∈ch,uW X pins H b) :
  Inv X pins σ H { s with heap:=h',toks:=t' }:=by
 have nit:∀ b u,H b=some u->b ∉ ch:=fun b u e z=>by
  have:=(hf b z).1
  rw[this] at e; cases e
 refine I.step (g':=s.gens) (d':=s.drawn) (ch:=ch) (fun b hb=>let ⟨_,f1,_,f3,f4,f5⟩:=hf b hb; ⟨f3,f1,f4,f5⟩) (fun b o _ _ hc e _=>k b o hc e) (fun b o _ _ hc e _=>⟨o.slots,k b o hc e⟩) (fun _ _ _ _ n=>n)
  (fun b o hc e=>⟨o,k b o hc e⟩) (fun _ _ e=>e) (fun _ _ _ e=>e) (fun b ps e=>⟨#[],by rw[e]; simp⟩) (fun m hm=>?_) (fun b u e=>?_) I.bare
 ·obtain⟨o,es,ep,ho,r⟩:=hm
  exact⟨o,es,ep,k _ o (fun z=>(hf _ z).2.1 rfl) ho,r⟩
 ·refine (I.hok b u e).stay (fun c v hc q=>k c v ?_ q) (fun _ q=>q) fun _ _ q=>q
  rcases hc with z | z
  ·rw[z]; exact nit b u e
  ·exact nit c _ z
theorem Iv {n c d:Nat} (hc:c < n) (hd:d < n):Zap (n+4) (n+2) (n+3) n (n+1) c d:=by
 constructor <;> (refine (fun (h:¬ @Eq Nat _ _)=>h) ?_) <;> lia
end L2
namespace L2
open PySem PySem.Spec PyProof.Rows
theorem nQ:∀ ns ms:List Int,((PL (min ns.length ms.length)).all (fun j=>ns.getD j 0 == ms.getD j 0) && ns.length == ms.length)=decide (ns=ms)
 | [],[]=>rfl
 | [],m::ms=>by rw[decide_eq_false (by simp)]; rfl
 | n::ns,[]=>by rw[decide_eq_false (by simp)]; rfl
 | n::ns,m::ms=>by
  have ih:=nQ ns ms
  have e:min (n::ns).length (m::ms).length=min ns.length ms.length+1:=by rw[Qk,Qk]; lia
  have el:((n::ns).length == (m::ms).length)=(ns.length == ms.length):=by simp
  have e3:decide (n::ns=m::ms)=(n == m && decide (ns=ms)):=by
   by_cases h1:n=m
   ·subst h1
    by_cases h2:ns=ms
    ·subst h2; simp
    ·simp [h2]
   ·simp [h1]
  rw[e,List.range_succ_eq_map,Vr,List.all_map,el,e3,← ih,Bool.and_assoc]
  rfl
theorem eE {X:Cx} {pos:Vk} {K:Qp} {es:List Expr} {k:Nat} {t:TGs} (n:Nat) (hK:X.K=K) (hc:X.calm=true) (h:PGs X es t)
  (hn:(Vm es X.env).length=n:=by rfl) (hst:(Vm es X.env).findIdx? (·.1)=none:=by rfl):PG X (.Tuple es k pos) (Oi K n t):=by
 subst hK
 exact K6 hc h hn hst
section
variable {X:Cx}
inductive GD (K:Qp) (x:V) (y:V) (H:Hp) (Q:VK):Prop where
 | mk (a b:Addr) (ns ms:List Int) (z0:x = .ref a) (z1:y = .ref b) (z2:SqT K H a (ns.map V.int)) (z3:SqT K H b (ms.map V.int)) (z4:Q (.bl (decide (ns=ms))) H):GD K x y H Q
def Ga (K:Qp):R2:=fun x y H Q=>GD K x y H Q
theorem ints_get {ns:List Int} {its:List Value} (i:Ra its ns) {j:Nat} (h:j < its.length):∃ t,its[j] = .int (ns.getD j 0) t:=by
 induction i generalizing j with
 | nil=>exact absurd h (Vz _)
 | cons n t r ih =>
  cases j with
  | zero=>exact⟨t,rfl⟩
  | succ j =>
   obtain⟨u,e⟩:=ih (j:=j) (Wv h)
   exact⟨u,by simpa using e⟩
theorem vO (hu:X.A.units < cLine):OpR X (S7 .Eq) (Ga X.K):=by
 intro pins s σ H x y v u Q I rx ry h
 obtain⟨a,b,ns,ms,rfl,rfl,ha,hb,q⟩:=h
 cases rx
 cases ry
 obtain⟨its,r1,p1,_⟩:=I.tuple ha
 obtain⟨its2,r2,p2,_⟩:=I.tuple hb
 have i1:Ra its ns:=intsAre_of r1
 have i2:Ra its2 ms:=intsAre_of r2
 have l1:=i1.length
 have l2:=i2.length
 refine SeqAt.eq_tupleAt (e:=fun j=>ns.getD j 0 == ms.getD j 0) (show s.heap.IsTuple a its.toArray from p1) (show s.heap.IsTuple b its2.toArray from p2) hu (fun j h1 h2=>?_) ?_
 ·obtain⟨t,e1⟩:=ints_get i1 (j:=j) (by simpa using h1)
  obtain⟨t',e2⟩:=ints_get i2 (j:=j) (by simpa using h2)
  rw[Tj,Tj,e1,e2]
  exact W7 _ _ _ _
 ·refine⟨.bl _,H,I,?_,q⟩
  have e:=nQ ns ms
  have s1:its.toArray.size=ns.length:=by rw[P0]; exact l1
  have s2:its2.toArray.size=ms.length:=by rw[P0]; exact l2
  rw[s1,s2,e]
  rfl
inductive zx (K:Qp) (x:V) (y:V) (H:Hp) (Q:VK):Prop where
 | mk (a b:Addr) (xs ys:List V) (z0:x = .ref a) (z1:y = .ref b) (z2:SqT K H a xs) (z3:SqT K H b ys) (z4:xs.length+ys.length<=sizeLine) (z5:(xs=[]->Q (.ref b) H)) (z6:(xs≠[]->ys=[]->Q (.ref a) H)) (z7:(xs≠[]->ys≠[]->∀ p,H p=none->Q (.ref p) (upd H p (.tup (xs++ys))))):zx K x y H Q
def Gv (K:Qp):R2:=fun x y H Q=>zx K x y H Q
theorem Fi:OpR X (Ut .Add) (Gv X.K):=by
 intro pins s σ H x y v u Q I rx ry h
 obtain⟨a,b,xs,ys,rfl,rfl,ha,hb,hz,q0,q1,q2⟩:=h
 by_cases hx:xs=[]
 ·subst hx
  cases rx
  cases ry
  obtain⟨its,r1,p1,_⟩:=I.tuple ha
  obtain⟨its2,r2,p2,_⟩:=I.tuple hb
  cases r1
  obtain⟨⟨c1,d1,dt1,sl1⟩,ho,hc,n,hd⟩:=id p1
  obtain⟨⟨c2,d2,dt2,sl2⟩,ho2,hc2,n2,hd2⟩:=id p2
  simp only at hc hd hc2 hd2
  subst hc hd hc2 hd2
  exact concat_meets ⟨_,ho,rfl⟩ ⟨_,ho2,rfl⟩ Xy seq_tuple_add Wu Wl (Wf _ _) (tuple_addW0 a b _ _ n n2 d1 d2 sl1 sl2 rfl) ⟨ho,ho2,⟨.ref b,H,I,rfl,q0 rfl⟩⟩
 ·exact Jy pins s σ H _ _ v u Q I rx ry ⟨a,b,xs,ys,rfl,rfl,ha,hb,hx,hz,q1 hx,q2 hx⟩
end
end L2
namespace L2
open PySem PySem.Spec PyProof.Rows
theorem yZ (l:Addr) (items:Array Value) (n:Nat) (dd:Option Addr) (sl:Array (Option Value)) (x:Int) (u:Tok) (h1:1 < x) (h2:x < 2 ^ 31) (he:items.isEmpty=false) (hz:items.size * x.toNat<=sizeLine) :
  Meets (Sd.«tuple.__mul__» ⟨[.ref l,.int x u],[]⟩) (fun _ R s=>s.heap.get? l=some { cls:=.type "tuple",dict:=dd,data:=.seq items n,slots:=sl }/\R (.ok (.ret (QK s.heap.objs.size))) { s with heap:=s.heap.push { cls:=Ub "tuple",data:=Data.seq (Vn (fun x1 x2=>x1++x2) #[] (Qd x.toNat items)) },toks:=s.toks }) :=
 .of_wp fun prog w A R s h=>by
  obtain⟨hp,g,d,tk,os⟩:=s
  obtain⟨hl,h⟩:=h
  have f1:=AutoSeq1.idx_int
  have c1:(decide (x < -(2 ^ 63)) || decide (x ≥ 2 ^ 63))=false:=by
   rw[decide_eq_false (by lia),decide_eq_false (by lia)]
   rfl
  have c2:(items.isEmpty || x == 1)=false:=by
   rw[he,beq_false_of_ne (by lia)]
   rfl
  have c3:(decide (x<=0) || items.isEmpty)=false:=by
   rw[he,decide_eq_false (by lia)]
   rfl
  have ez:((items.size * x.toNat:Nat):Int)=(items.size:Int) * x:=by
   rw[Int.natCast_mul,Int.toNat_of_nonneg (by lia)]
  have c4:¬ (items.size:Int) * x > (2 ^ 63 - 1) / 8:=by
   have:(sizeLine:Nat)<=(2 ^ 63 - 1) / 8:=by decide
   lia
  have c5:Builtin.Tuple.tupleTooMany ((items.size:Int) * x)=false:=by
   unfold Builtin.Tuple.tupleTooMany
   rw[decide_eq_false]
   lia
  have c6:¬ (Vn (fun x1 x2=>x1++x2) #[] (Qd x.toNat items)).size > sizeLine:=by
   have e:=foldl_rep items.toList x.toNat []
   rw[WK,Array.toArray_toList] at e
   rw[e,P0,len_rep,Qs,Nat.mul_comm]
   lia
  wp_walk using QJ hl
  refine Tf (decide_eq_false (by rw[c1]; exact PQ)) ?_
  wp_walk using QJ hl
  refine Tf (decide_eq_false (by rw[c2]; exact PQ)) ?_
  wp_walk using QJ hl
  refine Tf (decide_eq_false (by rw[c3]; exact PQ)) ?_
  wp_walk using QJ hl
  refine Tf (decide_eq_false c4) ?_
  wp_walk using QJ hl
  exact⟨_,rfl,h⟩
theorem yC (l:Addr) (items:Array Value) (n:Nat) (dd:Option Addr) (sl:Array (Option Value)) (u:Tok) :
  Meets (Sd.«tuple.__mul__» ⟨[.ref l,.int 1 u],[]⟩) (fun _ R s=>s.heap.get? l=some { cls:=.type "tuple",dict:=dd,data:=.seq items n,slots:=sl }/\R (.ok (.ret (QK l))) s) :=
 .of_wp fun prog w A R s h=>by
  obtain⟨hp,g,d,tk,os⟩:=s
  obtain⟨hl,h⟩:=h
  have f1:=AutoSeq1.idx_int
  have c2:(items.isEmpty || (1:Int) == 1)=true:=by rw[show ((1:Int) == 1)=true from rfl,Bool.or_true]
  wp_walk using QJ hl
  exact⟨_,rfl,h⟩
theorem gZ:fillsNumberSlot (.type "tuple") "mul" = pure false :=
 PySem.fillsNumberSlot_seq (id:="tuple.__mul__") (r:=some (.builtin "tuple.__rmul__")) F.slot_tuple_mul.lookup (by decide+kernel) F.slot_tuple_rmul.lookup (by decide+kernel)
theorem lE:seqRepeat? (.type "tuple")=pure (some (.builtin "tuple.__mul__")):=by
 unfold seqRepeat?
 rw[PySem.seqSlot_of (T:="tuple") (name:="__mul__") (id:="tuple.__mul__") F.slot_tuple_mul.lookup (by decide+kernel),PySem.seqSlot_of (T:="tuple") (name:="__rmul__") (id:="tuple.__rmul__") F.slot_tuple_rmul.lookup (by decide+kernel)]
 rfl
theorem iU (a:Int) (t:Tok) (l:Addr) (items:Array Value) (n:Nat) (dd:Option Addr) (sl:Array (Option Value)) :
  Meets (Sd.«int.__rmul__» ⟨[.int a t,.ref l],[]⟩) (fun _ R s=>s.heap.get? l=some { cls:=.type "tuple",dict:=dd,data:=.seq items n,slots:=sl }/\R (.ok (.ret Value.notImplemented)) s) :=
 .of_wp fun prog w A R s h=>by
  obtain⟨hp,g,d,tk,os⟩:=s
  obtain⟨hl,h⟩:=h
  wp_walk
  exact⟨_,rfl,h⟩
section
variable {X:Cx}
inductive HB (K:Qp) (x:V) (y:V) (H:Hp) (Q:VK):Prop where
 | mk (l:Addr) (k:Int) (xs:List V) (z0:x = .ref l) (z1:y = .int k) (z2:SqT K H l xs) (z3:xs≠[]) (z4:1<=k) (z5:k < 2 ^ 31) (z6:xs.length * k.toNat<=sizeLine) (z7:(k=1->Q (.ref l) H)) (z8:(k≠1->∀ p,H p=none->Q (.ref p) (upd H p (.tup (Qd k.toNat xs).flatten)))):HB K x y H Q
def JG (K:Qp):R2:=fun x y H Q=>HB K x y H Q
theorem Ij:OpR X (Ut .Mult) (JG X.K):=by
 intro pins s σ H x y v u Q I rx ry h
 obtain⟨l,k,xs,rfl,rfl,hl,hx,h1,h2,hz,q1,q2⟩:=h
 cases rx
 obtain⟨t,rfl⟩:=ry
 obtain⟨its,r,p,_⟩:=I.tuple hl
 have hlen:=r.length
 obtain⟨⟨c1,d1,dt1,sl1⟩,ho,hc,n,hd⟩:=id p
 simp only at hc hd
 subst hc hd
 by_cases hk:k=1
 ·subst hk
  exact V8 (T:="tuple") (U:="int") (by decide) ⟨_,ho,rfl⟩ (fun s'=>V0 s' 1 t) gZ X4 Vb lE F.slot_int_index.lookup
   (Ua Vb (V0 s 1 t) XM (Xp _ _) (iU 1 t l its.toArray n d1 sl1)
    ⟨ho,rfl,⟨_,ho,rfl⟩,Ua F.slot_tuple_mul ⟨_,ho,rfl⟩ F.entry_tuple_mul (F.args_tuple_mul_2 _ _) (yC l its.toArray n d1 sl1 t) ⟨ho,⟨.ref l,H,I,rfl,q1 rfl⟩⟩⟩)
 ·have he:its.toArray.isEmpty=false:=by
   cases its with
   | nil=>exact absurd (r.qF.mp rfl) hx
   | cons a r'=>rfl
  have hnew:Vn (fun x1 x2=>x1++x2) #[] (Qd k.toNat its.toArray)=(Qd k.toNat its).flatten.toArray:=by
   have:=foldl_rep its k.toNat []
   rw[WK] at this
   exact this
  have hz':its.toArray.size * k.toNat<=sizeLine:=by rw[P0,← hlen]; exact hz
  refine V8 (T:="tuple") (U:="int") (by decide) ⟨_,ho,rfl⟩ (fun s'=>V0 s' k t) gZ X4 Vb lE F.slot_int_index.lookup
   (Ua Vb (V0 s k t) XM (Xp _ _) (iU k t l its.toArray n d1 sl1)
    ⟨ho,rfl,⟨_,ho,rfl⟩,Ua F.slot_tuple_mul ⟨_,ho,rfl⟩ F.entry_tuple_mul (F.args_tuple_mul_2 _ _) (yZ l its.toArray n d1 sl1 k t (by lia) h2 he hz') ⟨ho,?_⟩⟩)
  rw[hnew]
  refine⟨.ref s.heap.objs.size,_,I.laid (t':=s.toks) (o:=.tup (Qd k.toNat xs).flatten) (fun b ob q=>Pr _ q) (PK _) ?_,rfl,q2 hk _ (I.hok.fresh (PK _))⟩
  exact⟨by rw[len_rep,Nat.mul_comm]; exact hz,_,r.rep k.toNat,IsTup.new _ _⟩
inductive Hj (K:Qp) (xs:List V) (H:Hp) (Q:VK):Prop where
 | mk (p:Addr) (ns:List Int) (z0:xs=[.ref p]) (z1:SqL K H p (ns.map V.int)) (z2:Q (.int ns.sum) H):Hj K xs H Q
def Mj (K:Qp):List V->Hp->VK->Prop:=fun xs H Q=>Hj K xs H Q
theorem zf (hc:X.calm=true):ik X (.builtin "sum") (Mj X.K):=by
 intro pins s σ H xs us Q I r h
 obtain⟨p,ns,rfl,hq,q⟩:=h
 obtain⟨u,rfl,ru⟩:=vals1 r
 cases ru
 obtain⟨its,rv,pl,hz⟩:=I.list hq
 have hi:Ra its ns:=intsAre_of rv
 obtain⟨zs,hx⟩:=hi.allInts.items
 have hl':s.heap.IsList p (intItems zs):=hx▸pl.isList
 refine sum_intListG (I.ok.hd hc) hl' fun h' tk t' hk=>?_
 have e1:ns=zs.toList.map (·.1):=by
  rw[← nums_intItems,← hx]
  exact (show numsOf its.toArray.toList=ns from hi.numsOf).symm
 have e2:preSum (numAt zs) zs.size=ns.sum:=by
  rw[preSum_eq,List.take_of_length_le (by simp),e1]
 rw[e2]
 exact⟨.int _,H,I.kept (t':=tk) hk,⟨_,rfl⟩,q⟩
end
end L2
namespace L2
open PySem PySem.Spec PyProof.Rows
def Nj:List V->Hp->VK->Prop:=fun xs H Q=>(∃ i,xs=[.int i]/\Q (.int i) H)∨∃ k,xs=[.bl k]/\Q (.int (if k then 1 else 0)) H
end L2
namespace L2
open PySem
def Ris (xs:Array Nat):Prop:=xs.toList.Pairwise (· < ·)
theorem xN {xs:Array Nat} (h:Ris xs) {i j x y:Nat} (hij:i < j) (hi:xs[i]? = some x) (hj:xs[j]? = some y):x < y:=by
 rw[← QR] at hi hj
 obtain⟨li,ei⟩:=List.getElem?_eq_some_iff.mp hi
 obtain⟨lj,ej⟩:=List.getElem?_eq_some_iff.mp hj
 have:=List.pairwise_iff_getElem.mp h i j li lj hij
 rw[ei,ej] at this
 exact this
theorem qj {xs:Array Nat} (h:Ris xs) (j:Nat):∀ (fuel lo hi:Nat),hi - lo<=fuel->lo<=hi->hi<=xs.size->(∀ i x,i < lo->xs[i]? = some x->x < j)->(∀ i x,hi<=i->xs[i]? = some x->j<=x) →
  Vd xs j fuel lo hi<=xs.size/\(∀ i x,i < Vd xs j fuel lo hi->xs[i]? = some x->x < j)/\(∀ i x,Vd xs j fuel lo hi<=i->xs[i]? = some x->j<=x)
 | 0,lo,hi,hf,hl,hs,h1,h2=>by
  rw[Vd]
  have e:lo=hi:=by lia
  subst e
  exact⟨hs,h1,h2⟩
 | fuel+1,lo,hi,hf,hl,hs,h1,h2=>by
  rw[Vd]
  by_cases hlt:lo < hi
  ·rw[if_pos hlt]
   dsimp only
   have hm1:lo<=(lo+hi) / 2:=by lia
   have hm2:(lo+hi) / 2 < hi:=by lia
   have hms:(lo+hi) / 2 < xs.size:=by lia
   generalize (lo+hi) / 2=m at *
   have eg:xs[m]? = some xs[m]:=Qm hms
   have ed:xs.getD m j=xs[m]:=by rw[RM,eg]; rfl
   rw[ed]
   by_cases hc:xs[m] < j
   ·rw[if_pos hc]
    refine qj h j fuel (m+1) hi (by lia) (by lia) hs (fun i x hi' e=>?_) h2
    by_cases hm:i=m
    ·subst hm
     rw[eg] at e
     cases e
     exact hc
    ·exact Nat.lt_trans (xN h (show i < m by lia) e eg) hc
   ·rw[if_neg hc]
    refine qj h j fuel lo m (by lia) hm1 (by lia) h1 (fun i x hi' e=>?_)
    by_cases hm:i=m
    ·subst hm
     rw[eg] at e
     cases e
     lia
    ·have:=xN h (show m < i by lia) eg e
     lia
  ·rw[if_neg hlt]
   have e:lo=hi:=by lia
   subst e
   exact⟨hs,h1,h2⟩
theorem ql {xs:Array Nat} (h:Ris xs) (j:Nat):RC xs j<=xs.size/\(∀ i x,i < RC xs j->xs[i]? = some x->x < j)/\(∀ i x,RC xs j<=i->xs[i]? = some x->j<=x):=by
 unfold RC
 refine qj h j xs.size 0 xs.size (by lia) (Qw _) (PK _) (fun i x hi=>absurd hi (Vz _)) fun i x hi e=>?_
 rw[Ue hi] at e
 cases e
theorem below_at {xs:Array Nat} (h:Ris xs) {i x:Nat} (e:xs[i]? = some x):RC xs (x+1)=i+1:=by
 obtain⟨h1,h2,h3⟩:=ql h (x+1)
 have hi:i < xs.size:=(Array.getElem?_eq_some_iff.mp e).1
 generalize RC xs (x+1)=p at *
 rcases Nat.lt_trichotomy p (i+1) with hp | hp | hp
 ·have:=h3 i x (by lia) e
  lia
 ·exact hp
 ·have hs:i+1 < xs.size:=by lia
  have:=xN h (S8 i) e (Qm hs)
  have:=h2 (i+1) _ hp (Qm hs)
  lia
theorem yh {xs:Array Nat} (h:Ris xs):RC xs 0=0:=by
 obtain⟨h1,h2,h3⟩:=ql h 0
 generalize RC xs 0=p at *
 rcases Nat.eq_zero_or_pos p with hp | hp
 ·exact hp
 ·have hs:0 < xs.size:=by lia
  have:=h2 0 _ hp (Qm hs)
  lia
theorem J9 {xs:Array Nat} (h:Ris xs) {j:Nat} (hj:xs[RC xs j]?≠some j):Ris (SetTable.insertAt xs (RC xs j) j):=by
 obtain⟨h1,h2,h3⟩:=ql h j
 unfold Ris
 rw[SetTable.toList_insertAt]
 generalize hp:RC xs j=p at *
 have hh:xs.toList.Pairwise (· < ·):=h
 have hlt:∀ x∈xs.toList.take p,x < j:=fun x hx=>by
  obtain⟨i,hi,e⟩:=RP hx
  rw[Qh] at hi
  rw[List.getElem_take] at e
  exact h2 i x (by lia) (by rw[← QR,Px (by lia),e])
 have hgt:∀ x∈xs.toList.drop p,j < x:=fun x hx=>by
  obtain⟨i,hi,e⟩:=RP hx
  rw[Wn] at hi
  rw[List.getElem_drop] at e
  have ex:xs[p+i]? = some x:=by rw[← QR,Px (by lia),e]
  have:=h3 (p+i) x (by lia) ex
  rcases R8 j x with q | q
  ·exact q
  ·have ejx:x=j:=by lia
   subst ejx
   by_cases hi0:i=0
   ·subst hi0
    exact absurd ex hj
   ·have hps:p < xs.size:=by
     have:=(Array.getElem?_eq_some_iff.mp ex).1
     lia
    have:=xN h (show p < p+i by lia) (Qm hps) ex
    have:=h3 p _ (PK _) (Qm hps)
    lia
 rw[List.pairwise_append]
 refine⟨hh.sublist (List.take_sublist _ _),List.pairwise_cons.mpr ⟨hgt,hh.sublist (List.drop_sublist _ _)⟩,fun a ha b hb=>?_⟩
 rcases List.mem_cons.mp hb with rfl | hb
 ·exact hlt a ha
 ·exact Nat.lt_trans (hlt a ha) (hgt b hb)
def ni (t:Uw) (j:Nat):Prop:=t.place[RC t.place j]?≠some j
theorem o6 {t:Uw} {j:Nat} (h:t.slot j = .empty∨t.slot j = .dummy):ni t j:=by
 intro e
 unfold SetTable.slot at h
 dsimp only at h
 rw[e,if_pos (by exact beq_self_eq_true _)] at h
 rcases h with h | h <;> cases h
theorem j0 {t:Uw} {f:Nat->Int} {h:Int}:∀ (fuel:Nat) (p:SetTable.Probe) {j:Nat} {d:Option Nat},(∀ x,p.dummy=some x->ni t x)->Xj t f h fuel p=some (.empty j d)->ni t j/\∀ x,d=some x->ni t x
 | 0,_,_,_,_,e=>by rw[Xj] at e; cases e
 | fuel+1,p,j,d,hd,e=>by
  rw[Xj] at e
  have adv:∀ q:SetTable.Probe,(t.advance q).dummy=q.dummy:=fun q=>by
   unfold SetTable.advance
   split <;> rfl
  cases hs:t.slot p.j with
  | empty =>
   rw[hs] at e
   cases e
   exact⟨o6 (.inl hs),hd⟩
  | dummy =>
   rw[hs] at e
   dsimp only at e
   refine j0 fuel _ (fun x hx=>?_) e
   rw[adv] at hx
   cases hx
   exact o6 (.inr hs)
  | live i =>
   rw[hs] at e
   dsimp only at e
   by_cases hc:(f i == h)=true
   ·rw[if_pos hc] at e
    cases e
   ·rw[if_neg hc] at e
    exact j0 fuel _ (fun x hx=>by rw[adv] at hx; exact hd x hx) e
theorem vJ {t:Uw} {h:Int} {j:Nat} {b:Bool} (e:t.freeSlot h=some (j,b)):ni t j:=by
 unfold SetTable.freeSlot SetTable.probe at e
 split at e
 ·rename_i j' d hp
  obtain⟨h1,h2⟩:=j0 _ _ (fun x hx=>by cases hx) hp
  cases e
  cases d with
  | none=>exact h1
  | some x=>exact h2 x rfl
 ·cases e
structure TOk (b:Bool) (t:Uw):Prop where
 led:t.led=b
 ris:t.plain=true->Ris t.place
theorem zJ (b:Bool):TOk b (.fresh 0 0 b):=⟨rfl,fun _=>Xn⟩
theorem gU {b:Bool} {t:Uw} (h:TOk b t) (n:Nat):TOk b (t.standIn n):=⟨h.led,fun z=>by cases z⟩
theorem yd {b:Bool} {t:Uw} (h:TOk b t) (es:Array (Int × Value)) (k:Int) (x:Value):TOk b (layNew t es k x).2.1:=by
 unfold layNew
 split
 ·rename_i slot wd e
  dsimp only
  unfold SetTable.orStandIn
  have ht:TOk b (t.put slot).1:=⟨h.led,fun z=>J9 (h.ris z) (vJ e)⟩
  split
  ·exact ht
  ·exact gU ht _
 ·exact gU h _
theorem Ea (owner:Array (Option Nat)):∀ l:List Nat,l.Pairwise (· < ·)->((l.filterMap fun j=>(owner.getD j none).map (j,·)).map (·.1)).Pairwise (· < ·):=fun l hl=>by
 have hs:List.Sublist ((l.filterMap fun j=>(owner.getD j none).map (j,·)).map (·.1)) l:=by
  induction l with
  | nil=>exact List.Sublist.slnil
  | cons a r ih =>
   have ih:=ih (List.pairwise_cons.mp hl).2
   rw[VL]
   cases e:owner.getD a none with
   | none=>exact ih.cons _
   | some k=>exact ih.cons₂ _
 exact hl.sublist hs
theorem sY {b:Bool} {t:Uw} (h:TOk b t) (es:Array (Int × Value)) (m:Nat):TOk b (Xe t es m).2.1:=by
 unfold Xe
 split
 ·rename_i t' order e
  dsimp only
  split
  ·unfold SetTable.relaid SetTable.laid at e
   cases ho:SetTable.layClean (SetTable.sizeAbove m - 1) (es.map (·.1)) with
   | none=>rw[ho] at e; cases e
   | some owner =>
    rw[ho] at e
    cases e
    exact⟨h.led,fun _=>Ea owner _ List.pairwise_lt_range⟩
  ·exact gU h _
 ·exact gU h _
end L2
namespace L2
open PySem PySem.Spec PyProof.Rows
section
variable {P:Qt} {w:QF} {A:QG} {E:Value->Pu->Prop} {s:Pu}
def j9 (P:Qt) (w:QF) (b:Bool) (h:Q7) (a:Addr) (ks:List Int):Prop :=
 ∃ o es ep t,h.get? a=some o/\o.ExactSet/\o.data = .set es ep t/\ElemsOf (UG P w) es.toList/\t.fits es.size=true/\TOk b t/\∃ ns,Ra (es.toList.map (·.2)) ns/\ns.Perm ks
theorem fV {l l':List Value} (p:l.Perm l'):∀ {ns:List Int},Ra l ns->∃ ms,Ra l' ms/\ms.Perm ns:=by
 induction p with
 | nil=>intro ns h; exact⟨ns,h,.refl _⟩
 | cons x p ih =>
  intro ns h
  cases h with
  | cons n t r =>
   obtain⟨ms,h1,h2⟩:=ih r
   exact⟨n::ms,.cons n t h1,h2.cons n⟩
 | swap x y l =>
  intro ns h
  cases h with
  | cons n t r =>
   cases r with
   | cons m u r=>exact⟨m::n::_,.cons m u (.cons n t r),.swap _ _ _⟩
 | trans p q ih1 ih2 =>
  intro ns h
  obtain⟨ms,h1,h2⟩:=ih1 h
  obtain⟨ks,h3,h4⟩:=ih2 h1
  exact⟨ks,h3,h4.trans h2⟩
theorem lC {k:Int} {t:Tok}:∀ {l:List Value} {ns:List Int},Ra l ns->Ra (l++[.int k t]) (ns++[k])
 | _,_,.nil=>.cons k t .nil
 | _,_,.cons n u r=>.cons n u (lC r)
theorem nR {k:Int}:∀ {l:List Value} {ns:List Int},Ra l ns->(k∈ns ↔ ∃ v∈l,(UG P w).is k v=true)
 | _,_,.nil=>by simp
 | _,_,.cons n t r=>by
  have ih:=nR (k:=k) r
  have e:(UG P w).is k (.int n t)=decide (k=n):=KeyKind.is_eq_decide (intKind_is _ _ _ _) k
  rw[Rb,ih]
  constructor
  ·rintro (h | ⟨v,hv,q⟩)
   ·exact⟨_,PN,by rw[e]; exact decide_eq_true h⟩
   ·exact⟨v,Qc _ hv,q⟩
  ·rintro⟨v,hv,q⟩
   rcases List.mem_cons.mp hv with rfl | hv
   ·rw[e] at q
    exact .inl (of_decide_eq_true q)
   ·exact .inr ⟨v,hv,q⟩
theorem lr {b:Bool} {h:Q7} {a:Addr} {o:Tq} {es es':Array (Int × Value)} {ep:Nat} {t t':Uw} {ks:List Int} (ho:h.get? a=some o) (hx:o.ExactSet) (hd:o.data = .set es ep t)
  (hel:ElemsOf (UG P w) es'.toList) (hf:t'.fits es'.size=true) (tk:TOk b t') (hn:∃ ns,Ra (es'.toList.map (·.2)) ns/\ns.Perm ks) :
  (h.update a (W9 es' t')).get? a=some { o with data:=.set es' (ep+1) t' }/\j9 P w b (h.update a (W9 es' t')) a ks:=by
 have g:(h.update a (W9 es' t')).get? a=some { o with data:=.set es' (ep+1) t' }:=by
  have q:=Q4 (W9 es' t') ho (by rw[putSet_of es' t' hd]; rfl)
  rwa [putSet_of es' t' hd] at q
 exact⟨g,_,es',ep+1,t',g,hx,rfl,hel,hf,tk,hn⟩
theorem Iz {b:Bool} {a:Addr} {ks:List Int} {k:Int} {t0:Tok} {Q:Bool->Pu->Prop} (hS:j9 P w b s.heap a ks) (hroom:ks.length+1 < scanBound)
  (h:∀ h' r,R9 a s.heap h'->j9 P w b h' a (step_dedup ks k)->Q r { s with heap:=h' }):PX (Qo P w) A (setAddHashed a (.int k t0) ((UG P w).hash k)) Q E s:=by
 obtain⟨o,es,ep,t,ho,hx,hd,hel,hf,tk,ns,hi,hp⟩:=hS
 have key:(UG P w).is k (.int k t0)=true:=intKind_is _ _ _ _
 have hlen:es.size=ks.length:=by
  rw[← hp.length_eq,← hi.length,Pq,Qs]
 have hb:es.size < scanBound:=by lia
 have hm:=nR (P:=P) (w:=w) (k:=k) hi
 unfold setAddHashed setAddHashedIn
 refine SN (Pn (Uo ho hd hf ?_))
 dsimp only
 rw[byScan_of rfl hb hel]
 simp only[↓reduceIte]
 unfold setAddByScan
 refine Pn (Pn (Ur (Pn (wpAny_setScan_of key ho hd hf hel ?_))))
 cases hr:es.toList.findIdx? (fun e=>(UG P w).is k e.2) with
 | some j =>
  dsimp only
  obtain⟨hj,q,_⟩:=List.findIdx?_eq_some_iff_getElem.mp hr
  have hk:k∈ks:=hp.mem_iff.mp (hm.mpr ⟨es.toList[j].2,List.mem_map.mpr ⟨_,Q9 hj,rfl⟩,q⟩)
  have es0:step_dedup ks k=ks:=by
   unfold step_dedup
   have hany:(ks.any fun x=>x == k)=true:=List.any_eq_true.mpr ⟨k,hk,beq_self_eq_true k⟩
   rw[if_pos hany]
  have q':=h s.heap false (Heap.SameBut.refl a s.heap) (by rw[es0]; exact⟨o,es,ep,t,ho,hx,hd,hel,hf,tk,ns,hi,hp⟩)
  exact Py (Py q')
 | none =>
  dsimp only
  have hk:k ∉ ks:=fun z=>by
   obtain⟨v,hv,q⟩:=hm.mp (hp.mem_iff.mpr z)
   obtain⟨e,he,rfl⟩:=List.mem_map.mp hv
   rw[List.findIdx?_eq_none_iff.mp hr e he] at q
   cases q
  have es0:step_dedup ks k=ks++[k]:=by
   unfold step_dedup
   rw[if_neg]
   intro z
   obtain⟨x,hx',e⟩:=List.any_eq_true.mp z
   exact hk (by rw[← eq_of_beq e]; exact hx')
  rw[es0] at h
  have pm:=layNew_perm t es ((UG P w).hash k) (.int k t0)
  have ft:=layNew_fits t es ((UG P w).hash k) (.int k t0)
  have tk1:=yd tk es ((UG P w).hash k) (.int k t0)
  generalize layNew t es ((UG P w).hash k) (.int k t0)=L at pm ft tk1 ⊢
  obtain⟨es1,t1,wd,gv⟩:=L
  dsimp only at pm ft tk1 ⊢
  rw[Array.toList_push] at pm
  have hel1:ElemsOf (UG P w) es1.toList:=(hel.push key rfl).perm pm
  have hn1:∃ ns,Ra (es1.toList.map (·.2)) ns/\ns.Perm (ks++[k]):=by
   have i1:Ra ((es.toList++[((UG P w).hash k,TJ k t0)]).map (·.2)) (ns++[k]):=by
    rw[PJ]
    exact lC hi
   obtain⟨ms,h1,h2⟩:=fV (pm.symm.map (·.2)) i1
   exact⟨ms,h1,h2.trans (hp.append (.refl _))⟩
  have hs1:es1.size<=sizeLine:=by
   have:es1.size=es.size+1:=by rw[← Qs,pm.length_eq,Qf,Qs]; rfl
   exact fits_of_scanBound (by lia)
  have gw:∀ (b:Bool) {s₁:Pu} {Q':Unit->Pu->Prop},Q' () s₁->PX (Qo P w) A (match b with | true=>rule "set.scan.the-table-gave-way" | false=>pure ()) Q' E s₁:=fun b s₁ Q' hq=>by
   cases b
   ·exact Py hq
   ·exact Ur hq
  have tail:∀ (g:Bool->Sem Unit) (R:Option Bool->Pu->Prop) (t2:Uw),(∀ (b:Bool) (s₁:Pu) (Q':Unit->Pu->Prop),Q' () s₁->PX (Qo P w) A (g b) Q' E s₁)->t2.fits es1.size=true->TOk b t2 →
    (∀ h',R9 a s.heap h'->j9 P w b h' a (ks++[k])->R (some true) { s with heap:=h' })->PX (Qo P w) A (do
    storeSet a es1 t2
    if (!wd && t2.tooFull)=true then do
      g (Xe t2 es1 (Uv es1.size)).2.2
      storeSet a (Xe t2 es1 (Uv es1.size)).1 (Xe t2 es1 (Uv es1.size)).2.1
      pure (some true)
     else pure (some true)) R E s:=fun g R t2 hg f2 k2 hR=>by
   refine Pn (wpAny_storeSet_of ho hd ?_ hs1)
   obtain⟨ho1,hS1⟩:=lr (P:=P) (w:=w) ho hx hd hel1 f2 k2 hn1
   have sb1:=Rj s.heap a (W9 es1 t2)
   split
   ·have pr:=relayAll_perm t2 es1 (Uv es1.size)
    have fr:=relayAll_fits t2 es1 (Uv es1.size)
    have tr:=sY k2 es1 (Uv es1.size)
    generalize Xe t2 es1 (Uv es1.size)=R at pr fr tr ⊢
    obtain⟨es2,t3,g2⟩:=R
    dsimp only at pr fr tr ⊢
    have hn2:∃ ns,Ra (es2.toList.map (·.2)) ns/\ns.Perm (ks++[k]):=by
     obtain⟨ns1,i1,p1⟩:=hn1
     obtain⟨ms,h1,h2⟩:=fV (pr.symm.map (·.2)) i1
     exact⟨ms,h1,h2.trans p1⟩
    have hs2:es2.size<=sizeLine:=by
     have:es2.size=es1.size:=by rw[← Qs,pr.length_eq,Qs]
     lia
    refine Pn (hg _ _ _ (Pn (wpAny_storeSet_of ho1 rfl ?_ hs2)))
    obtain⟨_,hS2⟩:=lr (P:=P) (w:=w) ho1 hx rfl (hel1.perm pr) fr tr hn2
    exact Py (hR _ (sb1.trans (Rj _ a _)) hS2)
   ·exact Py (hR _ sb1 hS1)
  refine Pn (gw _ ?_)
  split
  ·refine Pn ?_
   rw[hashByValue_scannable 8 rfl]
   refine Py (tail _ _ _ (fun b s₁ Q' hq=>gw b hq) ?_ ?_ fun h' sb hS=>Py (h h' true sb hS))
   ·exact ft
   ·exact tk1
  ·exact Pn (Py (tail _ _ _ (fun b s₁ Q' hq=>gw b hq) ft tk1 fun h' sb hS=>Py (h h' true sb hS)))
end
end L2
namespace L2
open PySem PySem.Spec PyProof.Rows
theorem j7 {P:Qt} {w:QF} {b:Bool} {h h':Q7} {a:Addr} {ks:List Int} (hk:∀ o,h.get? a=some o->h'.get? a=some o) (hS:j9 P w b h a ks):j9 P w b h' a ks:=by
 obtain⟨o,es,ep,t,ho,r⟩:=hS
 exact⟨o,es,ep,t,hk o ho,r⟩
section
variable {P:Qt} {w:QF} {A:QG} {R:W8->Pu->Prop} {I:Addr} {fp wr:List Addr} {G:Array GenState->Array GenState->Prop} {n:Nat} {Pv:Nat->Value->Prop} {St:Nat->Pu->Prop} {b:Bool}
theorem EY (W:WalksS P w A.in1 I fp wr G n Pv St) (S:Addr) (hS:S ∉ fp) (val:Nat->Int) (hv:∀ i v,Pv i v->∃ t,v = .int (val i) t) (hb:n+1 < scanBound) :
  ∀ (k i:Nat) (s:Pu),n - i=k->i<=n->St i s->j9 P w b s.heap S (firstMet val i)->(∀ s',Moved (S::wr) G s s'->j9 P w b s'.heap S (firstMet val n)->R (.ok (.ret .none)) s') →
   UJ (Qo P w) A (.builtin "set.update.loop" ⟨[.ref S,.ref I],[]⟩) R s:=by
 have nw:S ∉ wr:=fun z=>hS (W.sub _ z)
 have sub:∀ x∈wr,x∈S::wr:=fun x hx=>Qc _ hx
 intro k
 induction k with
 | zero =>
  intro i s hk hi st hs hR
  obtain rfl:i=n:=by lia
  refine RQ F.entry_set_update_loop ?_
  rw[Ry Wq _]
  refine (show PX _ A.in1 (Td (.ref I) >>= _) _ _ s from Pn (W.done s _ _ st fun s' hm=>?_))
  exact (show PX _ A.in1 (ret QT) _ _ s' from Py (hR s' (hm.mono sub) (j7 (fun o e=>hm.heap S o nw e) hs)))
 | succ k ih =>
  intro i s hk hi st hs hR
  have lt:i < n:=by lia
  refine RQ F.entry_set_update_loop ?_
  rw[Ry Wq _]
  refine (show PX _ A.in1 (Td (.ref I) >>= _) _ _ s from Pn (W.item i s _ _ lt st fun v s' hP st' hm=>?_))
  obtain⟨t,rfl⟩:=hv i v hP
  have hs':=j7 (h':=s'.heap) (fun o e=>hm.heap S o nw e) hs
  have room:(firstMet val i).length+1 < scanBound:=by
   have:=firstMet_length_le val i
   lia
  refine (show PX _ A.in1 (holding [TJ (val i) t] (setAdd S (.int (val i) t)) >>= _) _ _ s' from Pn (SN ?_))
  unfold setAdd
  refine SN (Pn ((UG P w).pyHash (k:=val i) (intKind_is _ _ _ _) ?_))
  refine Iz (s:={ s' with toks:=s'.toks+1 }) hs' room fun h' r sb hn=>?_
  rw[← firstMet_succ] at hn
  refine Py ⟨Su Wq _,ih (i+1) _ (by lia) lt (W.frame _ s' _ _ st' (Ti _) fun x hx o e=>?_) hn fun s'' hm'' hs''=>?_⟩
  ·rw[sb.2 x (fun z:x=S=>hS (by rw[← z]; exact hx))]
   exact e
  ·refine hR s'' (Moved.trans W.gtrans ((hm.mono sub).then_heap (Ti _) fun x o hx e=>?_) hm'') hs''
   rw[sb.2 x (fun z:x=S=>hx (by rw[z]; exact PN))]
   exact e
end
end L2
namespace L2
open PySem PySem.Spec PyProof.Rows
section
variable {P:Qt} {w:QF} {A:QG} {E:Value->Pu->Prop} {s:Pu}
def Ed (w:QF):Bool:=!w.params.followText "set-order"
def newS (w:QF):Tq:={ cls:=.type "set",dict:=none,data:=.set #[] 0 (.fresh 0 0 (Ed w)) }
theorem Ii (a:Value) {Q₁:Value->Pu->Prop} (h:Q₁ (.ref s.heap.objs.size) { s with heap:=s.heap.push (newS w) }) :
  UJ (Qo P w) A (.call (.builtin "set.__new__") ⟨[.type "set",a],[]⟩) (wants Q₁ E) s:=by
 refine codeAny_of_tree (show PX _ A.in1 (do XC "set.__new__" ⟨[.type "set",a],[]⟩; again (.builtin "set.__new__" ⟨[.type "set",a],[]⟩)) _ _ s from ?_)
 refine Pn (SM (PySem.F.newCall_set_1 a) (Py ⟨Su PySem.F.plain_set_new _,RQ PySem.F.entry_set_new ?_⟩))
 rw[Ry PySem.F.plain_set_new _]
 unfold Sd.«set.__new__» Builtin.Frozenset.newClass; have hsub:=sub_set_self; obtain⟨hp,g,d,tk,os⟩:=s
 dsimp only
 wp_walk
 refine Uz (Py ?_)
 dsimp only
 simp only[newObj]; refine Pn (wpAny_alloc (Py ?_))
 exact Py h
end
end L2
namespace L2
open PySem PySem.Spec PyProof.Rows
section
variable {P:Qt} {w:QF} {A:QG} {E:Value->Pu->Prop} {s:Pu}
set_option maxRecDepth 100000 in
set_option maxHeartbeats 3200000 in
theorem uX {l:Addr} {items:Array Value} {ns:List Int} {Q:Value->Pu->Prop} (hh:A.handled=none) (hl:s.heap.IsList l items) (hi:Ra items.toList ns) (hb:items.size+1 < scanBound)
  (h:∀ (h':Q7) (tk:Nat),j9 P w (Ed w) h' s.heap.objs.size (firstMet (fun i=>ns.getD i 0) items.size)->(∀ b o,b < s.heap.objs.size->s.heap.get? b=some o->h'.get? b=some o)->Q (.ref s.heap.objs.size) { s with heap:=h',toks:=tk }) :
  PX (Qo P w) A (call (.type "set") [.ref l]) Q E s:=by
 obtain⟨c,tl,hmro⟩:=PySem.F.called_set.mro
 have hmade:=PySem.F.called_set.made
 have hsub:=PySem.F.called_set.sub
 refine wpAny_call (codeAny_of_tree (show PX _ _ (callAny (.type "set") _) _ _ _ from Py ⟨Code.quiet_builtin _ (by decide+kernel),RQ PySem.F.entry_type_call ?_⟩))
 rw[Around.under_plain (weight_type_call_type "set" [.ref l] []) rfl]
 have h1:=PySem.F.called_set.notType
 have h2:=PySem.F.called_set.canCreate
 have hct:=PySem.F.typeCall_set_1 (.ref l)
 repeat (any_goals (first | assumption | wp_step))
 refine Ws (Ii (.ref l) (E:=E) (Q₁:=fun obj s₁=>obj = .ref s.heap.objs.size/\s₁={ s with heap:=s.heap.push (newS w) }) ⟨rfl,rfl⟩) fun r s₁ hr=>?_
 cases r with
 | error e=>exact hr
 | ok fl =>
  cases fl with
  | ret obj =>
   obtain⟨rfl,rfl⟩:=hr
   have gS:(s.heap.push (newS w)).get? s.heap.objs.size=some (newS w):=PB _ rfl
   have hT:Shared.TypeIs { s with heap:=s.heap.push (newS w) } (.ref s.heap.objs.size) "set":=⟨_,gS,rfl⟩
   have hli:=PySem.F.called_set.init.lookup
   have hbi:=PySem.F.called_set.init.bind (.ref s.heap.objs.size)
   repeat (any_goals (first | assumption | wp_step))
   refine Ws (codeAny_call_builtin (R:=wants (fun r s₂=>r = .none/\∃ h' tk,s₂={ s with heap:=h',toks:=tk }/\j9 P w (Ed w) h' s.heap.objs.size (firstMet (fun i=>ns.getD i 0) items.size) ∧
     (∀ b o,b < s.heap.objs.size->s.heap.get? b=some o->h'.get? b=some o)) E) PySem.F.called_set.init.plain PySem.F.entry_set_init (check_set_init_1 hT ?_)) fun r₂ s₂ hr₂=>?_
   ·obtain⟨ol,hol,hcl,nl,hdl⟩:=hl
    obtain⟨ocls,odict,odata,oslots⟩:=ol
    simp only at hcl hdl
    subst hcl hdl
    have hol':(s.heap.push (newS w)).get? l=some { cls:=.type "list",dict:=odict,data:=.seq items nl,slots:=oslots }:=Pr _ hol
    have hsls:=PySem.F.sub_list_set
    have hslf:=PySem.F.sub_list_frozenset
    have hne:(Ub "list" == Ub "dict")=false:=by decide
    have hl1:(s.heap.push (newS w)).IsList l items:=⟨_,hol',rfl,nl,rfl⟩
    have gS':(s.heap.push (newS w)).get? s.heap.objs.size=some { cls:=.type "set",dict:=none,data:=.set #[] 0 (.fresh 0 0 (Ed w)) }:=gS
    unfold Sd.«set.__init__» noKeywords Builtin.Frozenset.updateFrom; generalize hPI:pyIter=PI
    wp_walk
    subst hPI
    refine Up hl1 (Pn (wpAny_runValue ?_))
    have hlS:l < s.heap.objs.size:=Qa hol
    have hh3:A.in1.in1.in1.handled=none:=by simp [hh]
    have hneI:l≠(s.heap.push (newS w)).objs.size:=by
     rw[Q3]
     exact Qq (Rv hlS)
    have hSf:s.heap.objs.size ∉ [(s.heap.push (newS w)).objs.size,l]:=by
     rw[Q3,Rb,Ud]
     rintro (z | z)
     ·exact absurd z (Qq (S8 _))
     ·exact absurd z (RV hlS)
    refine EY (b:=Ed w) ((Walks.list hh3 _ l hneI items).toS) s.heap.objs.size hSf (fun i=>ns.getD i 0) (fun i v hv=>IntsAre.int_at hi i v (by rw[QR]; exact hv)) hb (items.size - 0) 0 _ (by lia) (Qw _)
     ⟨⟨_,PB _ rfl,rfl,rfl⟩,(hl1.push _)⟩ ?hS0 ?hR
    case hS0=>exact⟨newS w,#[],0,_,Pr _ gS,⟨rfl,rfl,rfl⟩,rfl,(fun e he=>by simp at he),rfl,zJ _,[],.nil,.refl _⟩
    case hR =>
     intro s' hm hS'
     obtain⟨h',g',d',tk',os'⟩:=s'
     obtain rfl:g'=s.gens:=hm.gens
     obtain rfl:d'=s.drawn:=hm.drawn
     obtain rfl:os'=s.os:=hm.os
     refine (show PX _ _ _ _ _ _ from Py (show PX _ _ (ret QT) _ _ _ from Py ⟨rfl,h',tk',rfl,hS',fun b o hb e=>?_⟩))
     refine hm.heap b o ?_ (Pr _ (Pr _ e))
     rw[Rb,Ud,Q3]
     rintro (z | z)
     ·exact absurd z (Qq hb)
     ·exact absurd z (Qq (Rv hb))
   ·cases r₂ with
    | error e=>exact hr₂
    | ok fl₂ =>
     cases fl₂ with
     | ret r =>
      obtain⟨rfl,h',tk,rfl,hS',hk'⟩:=hr₂
      repeat (any_goals (first | assumption | wp_step))
      exact h h' tk hS' hk'
     | _=>exact hr₂.elim
  | _=>exact hr.elim
end
end L2
namespace L2
open PySem PySem.Spec PyProof.Rows
theorem tX:Manifest.owners.lookup (String.ofList ['r','o','t','a','r','e','t','i','_','t','e','s'].reverse)=some Manifest.sig_set_iterator:=by kernel_rfl
theorem bD:Slot "set_iterator" "__next__" "set_iterator.__next__" :=
 .of (owner:="set_iterator") (n:="__next__") (by rw[U7,S9]; kernel_rfl) (by decide+kernel) (by decide+kernel) (by decide+kernel) (by first | exact .inl (by decide+kernel) | exact .inr (by decide+kernel)) (by rw[Tz]; kernel_rfl)
theorem eY:entryFor table "set_iterator.__next__" = some Sd.«set_iterator.__next__»:=entryFor_of_tree (by kernel_rfl)
theorem fJ (a:Value):Vy "set_iterator.__next__" ⟨[a],[]⟩:=by
 unfold Vy
 rw[We (id:="set_iterator.__next__") (n:=['_','_','t','x','e','n','_','_']) (o:=['r','o','t','a','r','e','t','i','_','t','e','s']) (by kernel_rfl) tX]
 kernel_rfl
theorem iu:Slot "set_iterator" "__iter__" "set_iterator.__iter__" :=
 .of (owner:="set_iterator") (n:="__iter__") (by rw[U7,S9]; kernel_rfl) (by decide+kernel) (by decide+kernel) (by decide+kernel) (by first | exact .inl (by decide+kernel) | exact .inr (by decide+kernel)) (by rw[Tz]; kernel_rfl)
theorem lU:entryFor table "set_iterator.__iter__" = some Sd.«dict_keyiterator.__iter__»:=entryFor_alias (id':="dict_keyiterator.__iter__") (by kernel_rfl) rfl (by decide+kernel) (by kernel_rfl)
theorem m6 (a:Value):Vy "set_iterator.__iter__" ⟨[a],[]⟩:=by
 unfold Vy
 rw[We (id:="set_iterator.__iter__") (n:=['_','_','r','e','t','i','_','_']) (o:=['r','o','t','a','r','e','t','i','_','t','e','s']) (by kernel_rfl) tX]
 kernel_rfl
theorem mH:entryFor table "set.__iter__" = some Sd.«frozenset.__iter__»:=entryFor_alias (id':="frozenset.__iter__") (by kernel_rfl) rfl (by decide+kernel) (by kernel_rfl)
theorem jP {α:Type}:∀ (l:List α) (j:Nat) (h:j < l.length),(l[j]::l.eraseIdx j).Perm l
 | a::r,0,_=>.refl _
 | a::r,j+1,h=>by
  have ih:=jP r j (Wv h)
  rw[List.getElem_cons_succ,List.eraseIdx_cons_succ]
  exact (List.Perm.swap _ _ _).trans (ih.cons a)
theorem sG {α:Type} (nx:Nat->Nat):∀ (fuel k:Nat) (left:List α) (out:Array α),left.length<=fuel->(pickOrder.go nx fuel k left out).toList.Perm (out.toList++left)
 | 0,k,left,out,h=>by
  rw[pickOrder.go]
  have e:left=[]:=XR (by lia)
  subst e
  rw[Sx]
 | fuel+1,k,left,out,h=>by
  rw[pickOrder.go]
  cases hl:left with
  | nil =>
   simp
  | cons a r =>
   have hlen:nx k % (a::r).length < (a::r).length:=Nat.mod_lt _ (by simp)
   rw[Px hlen]
   dsimp only
   generalize nx k % (a::r).length=j at hlen ⊢
   have ih:=sG nx fuel (k+1) ((a::r).eraseIdx j) (out.push (a::r)[j]) (by rw[List.length_eraseIdx_of_lt hlen,← hl]; lia)
   refine ih.trans ?_
   rw[Array.toList_push,Tn]
   refine List.Perm.append (.refl _) ?_
   show ((a::r)[j]::(a::r).eraseIdx j).Perm (a::r)
   exact jP _ j hlen
theorem nM {α:Type} (nx:Nat->Nat) (xs:Array α):(Vl nx xs).toList.Perm xs.toList:=by
 unfold Vl
 have:=sG nx xs.size 0 xs.toList #[] (by rw[Qs]; exact PK _)
 simpa using this
section
variable {P:Qt} {w:QF} {A:QG} {E:Value->Pu->Prop} {s:Pu}
theorem rB {α:Type} {Q:List α->Pu->Prop}:∀ (n:Nat) (xs:List α) (s:Pu),xs.length=n->(∀ ys d,ys.Perm xs->Q ys { s with drawn:=d })->PX (Qo P w) A (drawOrder n xs) Q E s
 | 0,xs,s,h,hq=>by
  rw[drawOrder]
  have e:xs=[]:=XR h
  subst e
  exact Py (hq [] s.drawn (.refl _))
 | n+1,[],s,h,hq=>by cases h
 | n+1,x::xs,s,h,hq=>by
  rw[drawOrder]
  ·refine Pn (fun Γ p hΓ=>?_)
   show Sem.wp _ _ (.choose .order (x::xs).length .pure) _ _ _ _
   rw[Sem.wp_choose]
   refine⟨by simp,?_⟩
   rw[Sem.wp_pure]
   generalize (Qo P w).w.draws .order (s.drawn.get .order)=z
   have hlen:z % (x::xs).length < (x::xs).length:=Nat.mod_lt _ (by simp)
   generalize z % (x::xs).length=j at hlen ⊢
   show PX _ _ _ _ _ _
   rw[Px hlen]
   dsimp only
   refine Pn (rB n ((x::xs).eraseIdx j) _ (by rw[List.length_eraseIdx_of_lt hlen]; rw[Qk] at h ⊢; lia) fun ys d p=>Py ?_)
   exact hq _ d ((p.cons _).trans (jP _ j hlen))
  ·simp
end
end L2
namespace L2
open PySem PySem.Spec PyProof.Rows
def SIt (h:Q7) (I S:Addr) (f:Value) (i n ep:Nat):Prop:=h.get? I=some { cls:=.type "set_iterator",dict:=none,data:=.fields #[f,.int i 0,.ref S,.int n 0,.int ep 0],slots:=#[] }
section
variable {P:Qt} {w:QF} {A:QG} {E:Value->Pu->Prop} {s:Pu} {I S:Addr} {o:Tq} {es:Array (Int × Value)} {ep:Nat} {t:Uw}
theorem qx {sl:Int} {tk:Tok} {i:Nat} {Q:Option Value->Pu->Prop} {r:Option (Value × Nat)} (hh:A.handled=none) (hI:SIt s.heap I S (.int sl tk) i es.size ep) (hS:s.heap.get? S=some o) (hd:o.data = .set es ep t) (hf:t.fits es.size=true)
  (hn:∀ (A:QG) (E:Value->Pu->Prop) (Q:Option (Value × Nat)->Pu->Prop),Q r s->PX (Qo P w) A (X8 S sl.toNat i ep) Q E s)
  (hs:∀ x j h',r=some (x,j)->SIt h' I S (.int (j:Nat) 0) (i+1) es.size ep->R9 I s.heap h'->Q (some x) { s with heap:=h' }) (he:∀ h',r=none->Heap.ExtBut I s.heap h'->Q none { s with heap:=h' }):PX (Qo P w) A (Td (.ref I)) Q E s:=by
 have hT:s.TypeIs (.ref I) "set_iterator":=⟨_,hI,rfl⟩
 unfold Td
 refine Pn (SQ (QW (name:=R7 "__next__") hT bD (Q6 bD hT eY ?_ (fJ _))))
 refine (show PX _ _ (fieldsOf (.ref I) >>= _) _ _ s from Pn (wpAny_fieldsOf hI rfl ?_))
 refine (show PX _ _ (setEntries S >>= _) _ _ s from Pn (VG hS hd hf ?_))
 rw[if_neg (by simp)]
 refine (show PX _ _ (X8 S sl.toNat (i:Int).toNat (ep:Int).toNat >>= _) _ _ s from Pn ?_)
 rw[Qx,Qx]
 refine hn _ _ _ ?_
 cases hr:r with
 | some xj =>
  obtain⟨x,j⟩:=xj
  dsimp only
  refine Pn (R6 hI rfl (by simp) ?_)
  have g1:=Q4 (Vp (·.setIfInBounds 0 (RB (j:Int)))) hI rfl
  refine Pn (R6 g1 rfl (by simp) ?_)
  have g2:=Q4 (Vp (·.setIfInBounds 1 (RB ((i:Int)+1)))) g1 rfl
  refine Py ⟨x,rfl,Py (hs x j _ hr ?_ ((Rj ..).trans (Rj ..)))⟩
  exact g2
 | none =>
  dsimp only
  refine Pn (R6 hI rfl (by simp) ?_)
  refine (show PX _ _ (Xz (.type "StopIteration") [] >>= _) _ _ _ from Pn ?_)
  simp only[Xz,newTuple]
  refine Pn (QD ?_ (by size_fits))
  refine Pn (m:=TF _ _) (SM (a:=QT) (by first | rfl | (simp only[TF]; rfl)) (QD ?_ (by size_fits)))
  simp only[raiseNew]
  refine Pn (WY ?_)
  first | rw[show A.in1.handled=none from hh] | rw[hh]
  refine Pn (Py (XN ?_))
  refine Pn (Tw (T:="StopIteration") (b:=true) ⟨_,PB _ rfl,rfl⟩ V1 (Py ?_))
  exact he _ hr (((Rj ..).extBut.push _).push _)
end
end L2
namespace L2
open PySem PySem.Spec PyProof.Rows
section
variable {P:Qt} {w:QF} {A:QG} {E:Value->Pu->Prop} {s:Pu} {I S:Addr} {o:Tq} {es:Array (Int × Value)} {ep:Nat} {t:Uw}
theorem sH {sl i:Nat} {Q:Option (Value × Nat)->Pu->Prop} (hb:w.params.followText "set-order" = true) (hS:s.heap.get? S=some o) (hd:o.data = .set es ep t) (hf:t.fits es.size=true)
  (h:Q (((Vl (w.params.setOrder S ep) es)[i]?).map fun e=>(e.2,sl)) s):PX (Qo P w) A (X8 S sl i ep) Q E s:=by
 unfold X8
 refine Pn (Uo hS hd hf ?_)
 dsimp only
 unfold setsByText
 refine Pn (Pn (Uz (Py ?_)))
 rw[if_pos (show (Qo P w).w.params.followText "set-order" = true from hb),if_neg (by simp)]
 unfold setWalk
 refine Pn (Pn (Uo hS hd hf ?_))
 dsimp only
 unfold setsByText
 refine Pn (Pn (Uz (Py ?_)))
 rw[if_pos (show (Qo P w).w.params.followText "set-order" = true from hb)]
 exact Pn (Uz (Py (Py h)))
theorem oW {sl i:Nat} {Q:Option (Value × Nat)->Pu->Prop} (hb:w.params.followText "set-order" = false) (hS:s.heap.get? S=some o) (hd:o.data = .set es ep t) (hf:t.fits es.size=true) (hl:t.led=true)
  (hp:t.plain=true∨es.size<=1) (hi:RC t.place sl=i)
  (h:Q (match es[i]?,t.place[i]? with | some (_,x),some j=>some (x,j+1) | _,_=>none) s):PX (Qo P w) A (X8 S sl i ep) Q E s:=by
 unfold X8
 refine Pn (Uo hS hd hf ?_)
 dsimp only
 unfold setsByText
 refine Pn (Pn (Uz (Py ?_)))
 rw[if_neg (show ¬ (Qo P w).w.params.followText "set-order" = true by rw[show (Qo P w).w.params.followText "set-order" = false from hb]; exact PQ)]
 have hdr:(!t.plain && decide (es.size > 1))=false:=by
  rcases hp with q | q
  ·rw[q]
   rfl
  ·rw[decide_eq_false (by lia),Bool.and_false]
 refine Tf (show decide ((!t.plain && decide (es.size > 1))=true)=false from decide_eq_false (by rw[hdr]; exact PQ)) ?_
 refine Pn (show PX _ _ (if (!t.led && !es.isEmpty)=true then unsupported "set:maker-not-led" else pure ()) _ _ _ from ?_)
 rw[hl]
 refine Tf (decide_eq_false (by simp)) (Py (Py ?_))
 rw[hi]
 exact h
theorem qC {f:Value} {i n:Nat} {Q:Value->Pu->Prop} (hI:SIt s.heap I S f i n ep) (h:Q (.ref I) s):PX (Qo P w) A (pyIter (.ref I)) Q E s:=by
 have hT:s.TypeIs (.ref I) "set_iterator":=⟨_,hI,rfl⟩
 refine Xc hT iu (Q6 iu hT lU (show PX _ _ (ret (.ref I)) _ _ s from ?_) (m6 _))
 exact Py ⟨_,rfl,"set_iterator",_,hT,bD.lookup,h⟩
theorem Cg (hh:A.handled=none) (hne:S≠I) (hb:w.params.followText "set-order" = true) (hd:o.data = .set es ep t) (hf:t.fits es.size=true) :
  Walks P w A I [I,S] [I] es.size (fun i v=>((Vl (w.params.setOrder S ep) es).toList.map (·.2))[i]? = some v) (fun i h=>(∃ (sl:Nat) (tk:Tok),SIt h I S (.int (sl:Int) tk) i es.size ep)/\h.get? S=some o) where
 sub:=fun b hb=>by simp at hb; simp [hb]
 frame:=fun i h h' st hk=>by
  obtain⟨⟨sl,tk,hI⟩,hS⟩:=st
  exact⟨⟨sl,tk,hk I (by simp) _ hI⟩,hk S (by simp) _ hS⟩
 item:=fun i s Q E hi st hQ=>by
  obtain⟨⟨sl,tk,hI⟩,hS⟩:=st
  have pl:(Vl (w.params.setOrder S ep) es).size=es.size:=by
   have:=(nM (w.params.setOrder S ep) es).length_eq
   simpa using this
  have hx:(Vl (w.params.setOrder S ep) es)[i]? = some ((Vl (w.params.setOrder S ep) es)[i]'(by lia)):=Qm _
  generalize (Vl (w.params.setOrder S ep) es)[i]'(by lia)=x at hx
  refine qx (r:=some (x.2,sl)) hh hI hS hd hf (fun A E Q q=>?_) (fun v j h' hr hI' sb=>?_) (fun h' hr _=>by cases hr)
  ·refine sH hb hS hd hf ?_
   rw[Qx,hx]
   exact q
  ·cases hr
   refine hQ _ h' s.toks ?_ ⟨⟨sl,0,hI'⟩,sb.2 S hne▸hS⟩ fun b o' hb' e=>?_
   ·rw[Qj,QR,hx]
    rfl
   ·rw[sb.2 b (fun z=>hb' (by rw[z]; exact List.mem_singleton.mpr rfl))]
    exact e
 done:=fun s Q E st hQ=>by
  obtain⟨⟨sl,tk,hI⟩,hS⟩:=st
  have pl:(Vl (w.params.setOrder S ep) es).size=es.size:=by
   have:=(nM (w.params.setOrder S ep) es).length_eq
   simpa using this
  refine qx (r:=none) hh hI hS hd hf (fun A E Q q=>?_) (fun v j h' hr=>by cases hr) (fun h' _ hx=>?_)
  ·refine sH hb hS hd hf ?_
   rw[Ue (by lia)]
   exact q
  ·exact hQ h' s.toks fun b o' hb' e=>hx b o' (fun z=>hb' (by rw[z]; exact List.mem_singleton.mpr rfl)) e
 self:=fun i s Q E st hQ=>by
  obtain⟨⟨sl,tk,hI⟩,_⟩:=st
  exact qC hI hQ
def slotAt (pl:Array Nat):Nat->Nat
 | 0=>0
 | i+1=>pl.getD i 0+1
theorem lB {pl:Array Nat} (h:Ris pl):∀ {i:Nat},i<=pl.size->RC pl (slotAt pl i)=i
 | 0,_=>yh h
 | i+1,hi=>by
  have e:pl[i]? = some (pl.getD i 0):=by
   rw[Qm (by lia),RM,Qm (by lia)]
   rfl
  exact below_at h e
theorem yW (hh:A.handled=none) (hne:S≠I) (hb:w.params.followText "set-order" = false) (hd:o.data = .set es ep t) (hf:t.fits es.size=true) (hl:t.led=true) (hp:t.plain=true∨es.size<=1) (hr:Ris t.place) :
  Walks P w A I [I,S] [I] es.size (fun i v=>(es.toList.map (·.2))[i]? = some v) (fun i h=>(∃ tk:Tok,SIt h I S (.int (slotAt t.place i:Nat) tk) i es.size ep)/\h.get? S=some o) where
 sub:=fun b hb=>by simp at hb; simp [hb]
 frame:=fun i h h' st hk=>by
  obtain⟨⟨tk,hI⟩,hS⟩:=st
  exact⟨⟨tk,hk I (by simp) _ hI⟩,hk S (by simp) _ hS⟩
 item:=fun i s Q E hi st hQ=>by
  obtain⟨⟨tk,hI⟩,hS⟩:=st
  have ps:t.place.size=es.size:=by
   simp only[SetTable.fits,Ru,beq_iff_eq] at hf
   exact hf.1
  have hx:es[i]? = some es[i]:=Qm hi
  have hj:t.place[i]? = some (t.place.getD i 0):=by
   rw[Qm (by lia),RM,Qm (by lia)]
   rfl
  generalize es[i]=x at hx
  obtain⟨k,v⟩:=x
  refine qx (r:=some (v,t.place.getD i 0+1)) hh hI hS hd hf (fun A E Q q=>?_) (fun u j h' hr hI' sb=>?_) (fun h' hr _=>by cases hr)
  ·refine oW hb hS hd hf hl hp (i:=i) (by rw[Qx]; exact lB hr (by lia)) ?_
   rw[hx,hj]
   exact q
  ·cases hr
   refine hQ _ h' s.toks ?_ ⟨⟨0,hI'⟩,sb.2 S hne▸hS⟩ fun b o' hb' e=>?_
   ·rw[Qj,QR,hx]
    rfl
   ·rw[sb.2 b (fun z=>hb' (by rw[z]; exact List.mem_singleton.mpr rfl))]
    exact e
 done:=fun s Q E st hQ=>by
  obtain⟨⟨tk,hI⟩,hS⟩:=st
  have ps:t.place.size=es.size:=by
   simp only[SetTable.fits,Ru,beq_iff_eq] at hf
   exact hf.1
  refine qx (r:=none) hh hI hS hd hf (fun A E Q q=>?_) (fun v j h' hr=>by cases hr) (fun h' _ hx=>?_)
  ·refine oW hb hS hd hf hl hp (i:=es.size) (by rw[Qx]; exact lB hr (by lia)) ?_
   rw[Ue (PK _)]
   exact q
  ·exact hQ h' s.toks fun b o' hb' e=>hx b o' (fun z=>hb' (by rw[z]; exact List.mem_singleton.mpr rfl)) e
 self:=fun i s Q E st hQ=>by
  obtain⟨⟨tk,hI⟩,_⟩:=st
  exact qC hI hQ
end
end L2
namespace L2
open PySem PySem.Spec PyProof.Rows
section
variable {P:Qt} {w:QF} {A:QG} {E:Value->Pu->Prop} {s:Pu} {I S T:Addr} {o:Tq} {es:Array (Int × Value)} {ep:Nat} {t:Uw}
def dh (pl:List Nat):List Value:=pl.map fun j:Nat=>RB (j:Int)
theorem yN {pl:List Nat} (hh:A.handled=none) (hne:S≠I) (hnt:T≠I) (hd:o.data = .set es ep t) (hf:t.fits es.size=true) (hp:pl.Perm (PL es.size)) :
  Walks P w A I [I,S,T] [I] es.size (fun i v=>(pl.map fun j=>(es.getD j (0,.none)).2)[i]? = some v) (fun i h=>SIt h I S (.ref T) i es.size ep/\h.get? S=some o/\h.IsTuple T (dh pl).toArray) where
 sub:=fun b hb=>by simp at hb; simp [hb]
 frame:=fun i h h' st hk=>by
  obtain⟨hI,hS,o',ho',r⟩:=st
  exact⟨hk I (by simp) _ hI,hk S (by simp) _ hS,o',hk T (by simp) _ ho',r⟩
 item:=fun i s Q E hi st hQ=>by
  obtain⟨hI,hS,hT⟩:=st
  have lp:pl.length=es.size:=by rw[hp.length_eq,Qn]
  have hT0:s.TypeIs (.ref I) "set_iterator":=⟨_,hI,rfl⟩
  obtain⟨j,hj⟩:∃ j,pl[i]? = some j:=⟨pl[i],Px (by lia)⟩
  have hj2:j < es.size:=List.mem_range.mp (hp.mem_iff.mp (Qu hj))
  have hx:es[j]? = some (es.getD j (0,.none)):=by
   rw[Qm hj2,RM,Qm hj2]
   rfl
  obtain⟨ot,hot,hct,nt,hdt⟩:=id hT
  unfold Td
  refine Pn (SQ (QW (name:=R7 "__next__") hT0 bD (Q6 bD hT0 eY ?_ (fJ _))))
  refine (show PX _ _ (fieldsOf (.ref I) >>= _) _ _ s from Pn (wpAny_fieldsOf hI rfl ?_))
  refine (show PX _ _ (setEntries S >>= _) _ _ s from Pn (VG hS hd hf ?_))
  rw[if_neg (by simp)]
  refine (show PX _ _ (Wk (.ref T) >>= _) _ _ s from Pn (Q8 hot hdt ?_))
  have hpl:(dh pl).toArray[(i:Int).toNat]? = some (.int (j:Int) 0):=by
   rw[Qx,WL]
   show (pl.map fun j:Nat=>RB (j:Int))[i]? = _
   rw[Qj,hj]
   rfl
  dsimp only
  rw[hpl]
  dsimp only
  refine Pn (show PX _ _ (setNextDrawn S (j:Int).toNat (ep:Int).toNat) _ _ _ from ?_)
  unfold setNextDrawn
  refine Pn (Uo hS hd hf ?_)
  dsimp only
  rw[Qx,Qx,if_neg (by simp),hx]
  refine Py (Pn (R6 hI rfl (by simp) ?_))
  have g1:=Q4 (Vp (·.setIfInBounds 1 (RB ((i:Int)+1)))) hI rfl
  refine Py ⟨_,rfl,Py (hQ _ _ s.toks ?_ ⟨g1,?_,?_⟩ fun b o' hb' e=>?_)⟩
  ·rw[Qj,hj]
   rfl
  ·rw[QV _ _ (Tu hne)]
   exact hS
  ·exact⟨ot,by rw[QV _ _ (Tu hnt)]; exact hot,hct,nt,hdt⟩
  ·rw[QV _ _ (fun z:I=b=>hb' (by rw[z]; exact List.mem_singleton.mpr rfl))]
   exact e
 done:=fun s Q E st hQ=>by
  obtain⟨hI,hS,hT⟩:=st
  have lp:pl.length=es.size:=by rw[hp.length_eq,Qn]
  have hT0:s.TypeIs (.ref I) "set_iterator":=⟨_,hI,rfl⟩
  obtain⟨ot,hot,hct,nt,hdt⟩:=id hT
  unfold Td
  refine Pn (SQ (QW (name:=R7 "__next__") hT0 bD (Q6 bD hT0 eY ?_ (fJ _))))
  refine (show PX _ _ (fieldsOf (.ref I) >>= _) _ _ s from Pn (wpAny_fieldsOf hI rfl ?_))
  refine (show PX _ _ (setEntries S >>= _) _ _ s from Pn (VG hS hd hf ?_))
  rw[if_neg (by simp)]
  refine (show PX _ _ (Wk (.ref T) >>= _) _ _ s from Pn (Q8 hot hdt ?_))
  have hpl:(dh pl).toArray[(es.size:Int).toNat]? = none:=by
   rw[Qx,WL]
   show (pl.map fun j:Nat=>RB (j:Int))[es.size]? = _
   rw[Qj,Rg (by lia)]
   rfl
  dsimp only
  rw[hpl]
  dsimp only
  refine Pn (R6 hI rfl (by simp) ?_)
  have g1:=Q4 (Vp (·.setIfInBounds 0 (RB 0))) hI rfl
  refine Pn (R6 g1 rfl (by simp) ?_)
  refine (show PX _ _ (Xz (.type "StopIteration") [] >>= _) _ _ _ from Pn ?_)
  simp only[Xz,newTuple]
  refine Pn (QD ?_ (by size_fits))
  refine Pn (m:=TF _ _) (SM (a:=QT) (by first | rfl | (simp only[TF]; rfl)) (QD ?_ (by size_fits)))
  simp only[raiseNew]
  refine Pn (WY ?_)
  first | rw[show A.in1.handled=none from hh] | rw[hh]
  refine Pn (Py (XN ?_))
  refine Pn (Tw (T:="StopIteration") (b:=true) ⟨_,PB _ rfl,rfl⟩ V1 (Py ?_))
  refine hQ _ s.toks fun b o' hb' e=>?_
  have hbI:b≠I:=fun z=>hb' (by rw[z]; exact List.mem_singleton.mpr rfl)
  exact ((((Rj ..).trans (Rj ..)).extBut.push _).push _) b o' hbI e
 self:=fun i s Q E st hQ=>qC st.1 hQ
end
end L2
namespace L2
open PySem PySem.Spec PyProof.Rows
section
variable {P:Qt} {w:QF} {A:QG} {E:Value->Pu->Prop} {s:Pu} {S:Addr}
theorem Et {Q:Bool->Pu->Prop} (hT:s.TypeIs (.ref S) "set") (h:Q false s):PX (Qo P w) A (Yd (.ref S)) Q E s:=by
 unfold Yd; refine Pn (Vx hT PySem.F.slot_set_len.lookup ?_)
 generalize hid:("set.__len__" : String)=id0
 wp_delta
 rw[show splitId id0=some ("set","__len__") from by subst hid; decide+kernel]
 subst hid
 refine Pn (Tw (T:="set") (b:=true) hT (by rw[Tz]; kernel_rfl) ?_)
 refine XS (fun z=>absurd z (by decide)) (fun _=>XS (fun _=>?_) (fun z=>absurd (by decide+kernel) z))
 exact Pn (wpAny_typeOf hT (Py h))
theorem Fz {b:Bool} {ks:List Int} {Q:Value->Pu->Prop} (hh:A.handled=none) (hb:b=Ed w) (hS:j9 P w b s.heap S ks) (hz:ks.length<=sizeLine)
  (h:∀ (I:Addr) (fp:List Addr) (n:Nat) (vs:List Value) (ns:List Int) (St:Nat->Q7->Prop) (s':Pu),Walks P w A I fp [I] n (fun i v=>vs[i]? = some v) St->St 0 s'.heap->Ra vs ns->ns.Perm ks->vs.length=n->(∀ x∈fp,x=S∨s.heap.objs.size<=x)->s.heap.objs.size<=I →
   s'.os=s.os->s'.gens=s.gens->(∀ b o,s.heap.get? b=some o->s'.heap.get? b=some o)->Q (.ref I) s'):PX (Qo P w) A (pyIter (.ref S)) Q E s:=by
 obtain⟨o,es,ep,t,ho,hx,hd,hel,hf,tk,ns,hi,hp⟩:=hS
 have hT:s.TypeIs (.ref S) "set":=⟨o,ho,hx.1⟩
 have hlt:S < s.heap.objs.size:=Qa ho
 refine Xc hT PySem.F.slot_set_iter (Q6 PySem.F.slot_set_iter hT mH ?_ (PySem.F.args_set_iter_1 _))
 refine (show PX _ _ (Builtin.Frozenset.sizeOf S >>= _) _ _ s from ?_)
 unfold Builtin.Frozenset.sizeOf
 refine Pn (Pn (VG ho hd hf (Py ?_)))
 unfold setDrawn setsByText
 refine Pn (Pn (Uo ho hd hf ?_))
 dsimp only
 refine Pn (Pn (Uz (Py (Py ?_))))
 have hps:t.place.size=es.size:=by
  simp only[SetTable.fits,Ru,beq_iff_eq] at hf
  exact hf.1
 have hlen:(es.toList.map (·.2)).length=es.size:=by rw[Pq,Qs]
 have hez:es.size<=sizeLine:=by
  have h1:=hi.length
  have h2:=hp.length_eq
  lia
 have start:∀ (vs:List Value) (ns':List Int) (St:Nat->Q7->Prop),Walks P w A s.heap.objs.size [s.heap.objs.size,S] [s.heap.objs.size] es.size (fun i v=>vs[i]? = some v) St->(∀ h,SIt h s.heap.objs.size S (.int (0:Nat) 0) 0 es.size ep->h.get? S=some o->St 0 h) →
   Ra vs ns'->ns'.Perm ks->vs.length=es.size->PX (Qo P w) A.in1 (do
    let first ← pure (RB 0)
    let e ← setEpoch S
    let r ← newFields "set_iterator" [first,RB 0,QK S,RB (es.size:Int),RB (e:Int)]
    ret r) (fun fin s'=>∃ v,fin=Fin.done (Flow.ret v)/\∃ T' r,s'.TypeIs v T'/\typeLookup (Ub T') (R7 "__next__")=pure (some r)/\Q v s') E s:=fun vs ns' St W hst hi' hp' hl'=>by
  refine Pn (Py (Pn (wpAny_setEpoch_of ho hd hf (Pn (QD (Py ?_))))))
  have g:(s.heap.push { cls:=.type "set_iterator",data:=.fields [RB 0,RB 0,QK S,RB (es.size:Int),RB (ep:Int)].toArray }).get? s.heap.objs.size=some { cls:=.type "set_iterator",data:=.fields [RB 0,RB 0,QK S,RB (es.size:Int),RB (ep:Int)].toArray }:=PB _ rfl
  refine⟨_,rfl,"set_iterator",_,⟨_,g,rfl⟩,bD.lookup,?_⟩
  refine h s.heap.objs.size [s.heap.objs.size,S] es.size vs ns' St _ W (hst _ g (Pr _ ho)) hi' hp' hl' (fun x hx'=>?_) (PK _) rfl rfl fun b' o' e=>Pr _ e
  rcases List.mem_cons.mp hx' with rfl | hx'
  ·exact .inr (PK _)
  ·exact .inl (List.mem_singleton.mp hx')
 have hne:S≠s.heap.objs.size:=Qq hlt
 cases hB:w.params.followText "set-order" with
 | true =>
  refine Tf (decide_eq_false (show ¬ (!w.params.followText "set-order" && (!t.plain && decide (es.size > 1)))=true by rw[hB]; exact PQ)) ?_
  have pp:=nM (w.params.setOrder S ep) es
  obtain⟨ms,h1,h2⟩:=fV (pp.symm.map (·.2)) hi
  exact start _ ms _ (Cg hh hne hB hd hf) (fun h' q1 q2=>⟨⟨0,0,q1⟩,q2⟩) h1 (h2.trans hp) (by rw[Pq,pp.length_eq,Qs])
 | false =>
  have hled:t.led=true:=by
   rw[tk.led,hb]
   unfold Ed
   rw[hB]
   rfl
  cases hD:(!t.plain && decide (es.size > 1)) with
  | false =>
   refine Tf (decide_eq_false (show ¬ (!w.params.followText "set-order" && (!t.plain && decide (es.size > 1)))=true by rw[hD,Bool.and_false]; exact PQ)) ?_
   have hpl:t.plain=true∨es.size<=1:=by
    rw[Bool.and_eq_false_iff] at hD
    rcases hD with q | q
    ·exact .inl (by simpa using q)
    ·exact .inr (by have:=of_decide_eq_false q; lia)
   have hris:Ris t.place:=by
    rcases hpl with q | q
    ·exact tk.ris q
    ·unfold Ris
     have hl1:t.place.toList.length<=1:=by rw[Qs]; lia
     generalize t.place.toList=l at hl1
     match l,hl1 with
     | [],_=>exact Xn
     | [x],_=>exact List.pairwise_singleton _ _
   exact start _ ns _ (yW hh hne hB hd hf hled hpl hris) (fun h' q1 q2=>⟨⟨0,q1⟩,q2⟩) hi hp hlen
  | true =>
   refine wpAny_ite_true (decide_eq_true (show (!w.params.followText "set-order" && (!t.plain && decide (es.size > 1)))=true by rw[hD,hB]; rfl)) ?_
   refine Pn (rB es.size (PL es.size) s Qn fun pl d pp=>?_)
   simp only[newTuple]
   have lp:pl.length=es.size:=by rw[pp.length_eq,Qn]
   refine Pn (QD ?_ (show (dh pl).toArray.size<=sizeLine by unfold dh; rw[P0,Pq]; lia))
   have sz1:(s.heap.push { cls:=.type "tuple",data:=.seq (dh pl).toArray }).objs.size=s.heap.objs.size+1:=Q3 _ _
   have gT:(s.heap.push { cls:=.type "tuple",data:=.seq (dh pl).toArray }).get? s.heap.objs.size=some { cls:=.type "tuple",data:=.seq (dh pl).toArray }:=PB _ rfl
   have ho1:(s.heap.push { cls:=.type "tuple",data:=.seq (dh pl).toArray }).get? S=some o:=Pr _ ho
   refine Pn (wpAny_setEpoch_of (o:=o) (es:=es) (t:=t) ho1 hd hf (Pn (QD (Py ?_))))
   have g:((s.heap.push { cls:=.type "tuple",data:=.seq (dh pl).toArray }).push { cls:=.type "set_iterator",data:=.fields [QK s.heap.objs.size,RB 0,QK S,RB (es.size:Int),RB (ep:Int)].toArray }).get? (s.heap.push { cls:=.type "tuple",data:=.seq (dh pl).toArray }).objs.size=some { cls:=.type "set_iterator",data:=.fields [QK s.heap.objs.size,RB 0,QK S,RB (es.size:Int),RB (ep:Int)].toArray }:=PB _ rfl
   refine⟨_,rfl,"set_iterator",_,⟨_,g,rfl⟩,bD.lookup,?_⟩
   have hne1:S≠(s.heap.push { cls:=.type "tuple",data:=.seq (dh pl).toArray }).objs.size:=by
    rw[sz1]
    exact Qq (Rv hlt)
   have hne2:s.heap.objs.size≠(s.heap.push { cls:=.type "tuple",data:=.seq (dh pl).toArray }).objs.size:=by
    rw[sz1]
    exact Qq (S8 _)
   have hv:(pl.map fun j=>(es.getD j (0,.none)).2).Perm (es.toList.map (·.2)):=by
    refine (pp.map _).trans ?_
    have e:(PL es.size).map (fun j=>(es.getD j (0,QT)).2)=es.toList.map (·.2):=by
     apply Xm
     intro i
     have ea:es.toList[i]? = es[i]?:=QR
     rw[Qj,Qj,ea]
     by_cases hi':i < es.size
     ·rw[RG hi',Qm hi']
      simp [RM,Qm hi']
     ·have er:(PL es.size)[i]? = none:=Rg (by rw[Qn]; lia)
      rw[er,Ue (by lia)]
      rfl
    rw[e]
   have le1:s.heap.objs.size<=(s.heap.push { cls:=.type "tuple",data:=.seq (dh pl).toArray }).objs.size:=by
    rw[sz1]
    exact Ti _
   obtain⟨ms,h1,h2⟩:=fV hv.symm hi
   refine h _ [(s.heap.push { cls:=.type "tuple",data:=.seq (dh pl).toArray }).objs.size,S,s.heap.objs.size] es.size _ ms _ _ (yN (T:=s.heap.objs.size) hh hne1 hne2 hd hf pp) ⟨g,Pr _ ho1,_,Pr _ gT,rfl,0,rfl⟩ h1 (h2.trans hp) (by rw[Pq]; exact lp) (fun x hx'=>?_) le1 rfl rfl fun b' o' e=>Pr _ (Pr _ e)
   rcases List.mem_cons.mp hx' with rfl | hx'
   ·exact .inr le1
   ·rcases List.mem_cons.mp hx' with rfl | hx'
    ·exact .inl rfl
    ·exact .inr (by rw[List.mem_singleton.mp hx']; exact PK _)
theorem uG {ks:List Int} {Q:List Value->Pu->Prop} (hh:A.handled=none) (hS:j9 P w (Ed w) s.heap S ks) (hz:ks.length<=sizeLine)
  (h:∀ (vs:List Value) (ns:List Int) (s':Pu),Ra vs ns->ns.Perm ks->s.heap.objs.size<=s'.heap.objs.size->s'.os=s.os->s'.gens=s.gens->(∀ b o,s.heap.get? b=some o->s'.heap.get? b=some o)->Q vs s'):PX (Qo P w) A (collect (.ref S)) Q E s:=by
 obtain⟨o,es,ep,t,ho,hx,_⟩:=id hS
 have hlt:S < s.heap.objs.size:=Qa ho
 have hSl:s.heap.objs.size≠S:=RV hlt
 unfold collect
 refine Pn (wpAny_runValue (RQ PySem.F.entry_proto_collect ?_))
 rw[Ry PySem.F.plain_proto_collect _]
 refine (show PX _ A.in1 (newList [] >>= fun l=>again (.builtin "list.__iadd__" ⟨[l,.ref S],[]⟩)) _ _ s from Pn (QD ?_))
 refine Py ⟨Su PySem.F.plain_list_iadd _,RQ PySem.F.entry_list_iadd ?_⟩
 rw[Ry PySem.F.plain_list_iadd _]
 generalize hN:s.heap.push { cls:=.type "list",data:=.seq ([]:List Value).toArray }=h1
 have gL:h1.get? s.heap.objs.size=some { cls:=.type "list",data:=.seq ([]:List Value).toArray }:=by rw[← hN]; exact PB _ rfl
 have k1:∀ b o,s.heap.get? b=some o->h1.get? b=some o:=fun b o e=>by rw[← hN]; exact Pr _ e
 have sz1:h1.objs.size=s.heap.objs.size+1:=by rw[← hN]; exact Q3 _ _
 have hT:Shared.TypeIs { s with heap:=h1 } (.ref S) "set":=⟨o,k1 _ _ ho,hx.1⟩
 refine (show PX _ A.in1 (Ye (.ref s.heap.objs.size) (.ref S) (.ref s.heap.objs.size)) _ _ { s with heap:=h1 } from ?_)
 unfold Ye; refine Pn (wpAny_typeOf hT ?_)
 have q1:Builtin.List.listSameRef (.ref s.heap.objs.size) (.ref S)=false:=by simp [Builtin.List.listSameRef,hSl]
 have q2:(Ub "set" == Ub "list")=false:=by decide
 have q3:(Ub "set" == Ub "tuple")=false:=by decide
 simp only[q1,q2,q3,Bool.or_false,V7,if_false]
 refine Pn (Fz (s:={ s with heap:=h1 }) hh rfl (j7 (fun o e=>k1 S o e) hS) hz fun I fp n vs ns St s2 W st hi hp hl hfp hI os2 gs2 k2=>?_)
 have gL2:=k2 _ _ gL
 have hTs:s2.TypeIs (.ref S) "set":=⟨o,k2 _ _ (k1 _ _ ho),hx.1⟩
 have hLf:s.heap.objs.size ∉ fp:=fun z=>by
  rcases hfp _ z with q | q
  ·exact hSl q
  ·have q':h1.objs.size<=s.heap.objs.size:=q
   rw[sz1] at q'
   exact absurd q' (Nat.not_succ_le_self _)
 have hz':n<=sizeLine:=by
  have e1:=hi.length
  have e2:=hp.length_eq
  lia
 have key:∀ (R:W8->Pu->Prop),(∀ (s':Pu) (c':Nat),s'.heap.get? s.heap.objs.size=some { cls:=.type "list",dict:=none,data:=.seq vs.toArray c',slots:=#[] }->s'.os=s.os->s'.gens=s.gens->(∀ b o,s.heap.get? b=some o->s'.heap.get? b=some o)->R (.ok (.ret (.ref s.heap.objs.size))) s') →
   ∀ (h':Q7) (c tk:Nat),St 0 h'->(∀ b o,b≠s.heap.objs.size->s2.heap.get? b=some o->h'.get? b=some o)->h'.get? s.heap.objs.size=some { cls:=.type "list",data:=.seq #[] c } →
   UJ (Qo P w) A (.builtin "list.extend.loop" ⟨[.ref s.heap.objs.size,.ref I,.ref s.heap.objs.size],[]⟩) R { s2 with heap:=h',toks:=tk }:=fun R hR h' c tk st' kp gl=>by
  refine codeAny_extend_loopS W.toS hz' s.heap.objs.size hLf _ n 0 _ #[] c rfl (Qw _) st' gl (ItemsOf.nil _) fun s' acc' c' hm gL' hacc=>?_
  have eacc:acc'=vs.toArray:=by
   apply Array.ext_getElem?
   intro j
   have ev:vs.toArray[j]? = vs[j]?:=WL
   rw[ev]
   by_cases hj:j < acc'.size
   ·have e:=hacc.2 j acc'[j] (Qm hj)
    rw[Qm hj]
    exact e.symm
   ·rw[Ue (by lia),Rg (by have:=hacc.1; lia)]
  rw[eacc] at gL'
  refine hR s' c' gL' (hm.os.trans os2) (hm.gens.trans gs2) fun b o' e=>?_
  have hbl:b < s.heap.objs.size:=Qa e
  refine hm.heap b o' ?_ (kp b o' (Qq hbl) (k2 _ _ (k1 _ _ e)))
  rw[Rb,Ud]
  rintro (z | z)
  ·exact absurd z (Qq hbl)
  ·have q:h1.objs.size<=I:=hI
   rw[sz1,← z] at q
   exact absurd (Ql hbl (Nat.le_of_succ_le q)) (SX _)
 refine Pn (SN (Et hTs ?_))
 have fin:∀ (s':Pu) (c':Nat),s'.heap.get? s.heap.objs.size=some { cls:=.type "list",dict:=none,data:=.seq vs.toArray c',slots:=#[] }->s'.os=s.os->s'.gens=s.gens->(∀ b o,s.heap.get? b=some o->s'.heap.get? b=some o) →
   PX (Qo P w) A (load s.heap.objs.size >>= fun o=>match o.data with | .seq xs _=>pure xs.toList | _=>unsupported "internal:collect") Q E s':=fun s' c' g e1 e2 e3=>Pn (wpAny_load g (Py (h vs ns s' hi hp (UL (Qa g)) e1 e2 e3)))
 refine XS (fun _=>?_) (fun _=>Py ⟨Su PySem.F.plain_extend_loop _,key _ (fun s' c' g e1 e2 e3=>fin s' c' g e1 e2 e3) s2.heap _ s2.toks st (fun b o _ e=>e) gL2⟩)
 refine Pn (Ur (Pn (show PX _ _ (Xv s.heap.objs.size (·.push .none) >>= fun _=>Xv s.heap.objs.size (·.pop)) _ _ _ from ?_)))
 refine Pn (U6 gL2 rfl ?_)
 have g3:=Q4 (RJ (·.push QT)) gL2 rfl
 refine U6 (hz:=by seq_fits) g3 rfl ?_
 have g4:=Q4 (RJ (·.pop)) g3 rfl
 have oth:∀ b o',b≠s.heap.objs.size->s2.heap.get? b=some o'->((s2.heap.update s.heap.objs.size (RJ (·.push QT))).update s.heap.objs.size (RJ (·.pop))).get? b=some o':=fun b o' hb e=>by
  rw[QV _ _ (Tu hb),QV _ _ (Tu hb)]
  exact e
 exact Py ⟨Su PySem.F.plain_extend_loop _,key _ (fun s' c' g e1 e2 e3=>fin s' c' g e1 e2 e3) _ _ s2.toks (W.frame 0 _ _ st fun b hb o' e=>oth b o' (fun z=>hLf (by rw[← z]; exact hb)) e) oth g4⟩
end
end L2
namespace L2
open PySem PySem.Spec PyProof.Rows
section
variable {P:Qt} {w:QF} {A:QG} {E:Value->Pu->Prop} {s:Pu} {S:Addr}
theorem yL {ks:List Int} {Q:Value->Pu->Prop} (hh:A.handled=none) (hS:j9 P w (Ed w) s.heap S ks) (h64:ks.length < 64)
  (h:∀ (l:Addr) (vs:List Value) (ns:List Int) (c:Nat) (s':Pu),Ra vs ns->ns.Perm ks->ns.Pairwise (·<=·)->s'.heap.get? l=some { cls:=.type "list",data:=.seq vs.toArray c }->s.heap.objs.size<=l->s'.os=s.os->s'.gens=s.gens →
   (∀ b o,s.heap.get? b=some o->s'.heap.get? b=some o)->Q (.ref l) s'):PX (Qo P w) A (call (.builtin "sorted") [.ref S]) Q E s:=by
 refine Calls.call_function_entry kind_sorted plain_sorted entry_sorted (args_sorted1 _) ?_
 unfold Sd.«sorted»; refine Pn (m:=checkCount "sorted" 1 1 _) (Py ?_)
 refine Pn (uG hh hS (UL (Ql h64 (by decide))) fun vs ns s1 hi hp hsz os1 gs1 k1=>?_)
 have hl:vs.length < 64:=by
  have e1:=hi.length
  have e2:=hp.length_eq
  lia
 refine Pn (wpAny_newList ?_)
 have g1:(s1.heap.push (Sq "list" vs.toArray 0)).get? s1.heap.objs.size=some (Sq "list" vs.toArray 0):=PB _ rfl
 refine Pn (SN (Q6 slot_list_sort ⟨_,g1,rfl⟩ entry_list_sort (list_sort_tree g1 hi hl fun out ns' a1 a2 a3=>⟨_,rfl,?_⟩) (args_list_sort _)))
 obtain⟨c,hc⟩:=sortedHeap_at (out:=out) g1
 refine Py ⟨_,rfl,h s1.heap.objs.size out.toList ns' c _ a1 (a2.trans hp) a3 ?_ hsz os1 gs1 fun b o e=>?_⟩
 ·exact hc
 ·have e1:=k1 b o e
  have lt:=Qa e1
  rw[sortedHeap_old (Qq lt) (by rw[Q3]; exact Rv lt)]
  exact Pr _ e1
end
end L2
namespace L2
open PySem PySem.Spec PyProof.Rows
def ddI (ns:List Int):List Int:=firstMet (fun i=>ns.getD i 0) ns.length
theorem Inv.JK {X:Cx} {pins:List (Addr × Tq)} {σ:St} {H:Hp} {s s':Pu} {l:Addr} {ys:List V} {its:List Value} {c:Nat} (I:Inv X pins σ H s) (ho:s'.os=s.os) (hg:s'.gens=s.gens) (k:∀ b u,s.heap.get? b=some u->s'.heap.get? b=some u)
  (hl:s.heap.objs.size<=l) (hv:Vals ys its) (hz:ys.length<=sizeLine) (g:s'.heap.get? l=some { cls:=.type "list",data:=.seq its.toArray c }):Inv X pins σ (upd H l (.lst ys)) s':=by
 have J:=I.laid (t':=s.toks) (o:=.lst ys) k hl ⟨hz,its,c,hv,g⟩
 exact⟨J.ok,ho.trans I.os,by rw[hg]; exact I.bare,J.base,J.loc,J.cell,J.free,J.freeC,J.pin,J.hok,J.len⟩
def tSS (K:Qp) (te:TA):TE:=fun σ H Q=>te σ H fun xs H1=>∃ (a:Addr) (ns:List Int),xs=[.ref a]/\SqL K H1 a (ns.map V.int)/\ns.length<=4000/\(ddI ns).length < 64/\∀ ms:List Int,ms.Perm (ddI ns)->ms.Pairwise (·<=·)->∀ l,H1 l=none->Q (.ref l) (upd H1 l (.lst (ms.map V.int)))
theorem rA {X:Cx} {e:Expr} {te:TA} {p1 p2 q1 q2:Vk} (hc:X.calm=true) (hg1:Gl X "sorted") (hm1:X.mg "sorted" = none) (hg2:Gl X "set") (hm2:X.mg "set" = none) (ha:PA X [e] te)
  (hb1:QZ "sorted" = some (.builtin "sorted"):=by decide+kernel) (hb2:QZ "set" = some (.type "set"):=by decide+kernel)
  (he1:Qv [.Call (.Name "set" p2) [e] [] q2] X.env=(false,S6 (.Call (.Name "set" p2) [e] [] q2) X.env)::Qv [] X.env:=by rfl) (hp1:(Ul q1 (Qv [] X.env)).any (·.1)=false:=by rfl)
  (he2:Qv [e] X.env=(false,S6 e X.env)::Qv [] X.env:=by rfl) (hp2:(Ul q2 (Qv [] X.env)).any (·.1)=false:=by rfl) :
  PE X (.Call (.Name "sorted" p1) [.Call (.Name "set" p2) [e] [] q2] [] q1) (tSS X.K te):=by
 intro pins s σ H Q I h
 refine Sh (fM I hg1 hm1 hb1 ?_ (by decide) (by decide))
 refine XD ?_ he1 hp1
 rw[he1]
 refine (show PX _ _ (X7 ((false,S6 (.Call (.Name "set" p2) [e] [] q2) X.env)::Ul q1 (Qv [] X.env))) _ _ s from Xb ?_)
 refine Sh (fM I hg2 hm2 hb2 ?_ (by decide) (by decide))
 refine Q5 (thn (ha q2 pins s σ H _ I h) fun us s1 ⟨vs,H1,I1,r1,q⟩=>?_) he2 hp2
 obtain⟨a,ns,rfl,hq,hl,h64,hQ⟩:=q
 obtain⟨u,rfl,ru⟩:=vals1 r1
 cases ru
 obtain⟨its,rv,pl,_⟩:=I1.list hq
 have hi:Ra its ns:=intsAre_of rv
 have hsz:its.toArray.size=ns.length:=by rw[P0]; exact hi.length
 refine uX (I1.ok.hd hc) pl.isList hi (by rw[hsz]; exact Uc (XF hl) (by decide)) fun h' tk hS hk=>?_
 rw[hsz] at hS
 have I2:Inv X pins σ H1 { s1 with heap:=h',toks:=tk }:=I1.kept (t':=tk) fun b o e=>hk b o (Qa e) e
 refine (show PX _ _ (X7 []) _ _ _ from Xq ?_)
 refine yL (I1.ok.hd hc) hS h64 fun l vs ms c s3 hi3 hp3 hw3 g3 hl3 os3 gs3 k3=>?_
 have hml:(ms.map V.int).length<=sizeLine:=by
  rw[Pq,hp3.length_eq]
  exact UL (Ql h64 (by decide))
 exact⟨.ref l,_,I2.JK os3 gs3 k3 hl3 (jM hi3) hml g3,rfl,hQ ms hp3 hw3 l (I2.hok.fresh hl3)⟩
end L2
namespace L2
open PySem PySem.Spec PyProof.Rows
section
variable {X:Cx} {pins:List (Addr × Tq)} {s:Pu} {σ:St} {H:Hp}
end
end L2
namespace L2
open PySem PySem.Spec PyProof.Rows
section
variable {X:Cx} {k:Nat}
end
end L2
namespace L2
open PySem PySem.Spec PyProof.Rows
section
variable {X:Cx} {k:Nat}
end
end L2
namespace L2
open PySem PySem.Spec PyProof.Rows
def mxD (d:Int):List Int->Int
 | []=>d
 | a::r=>r.foldl max a
theorem eU:∀ (r:List Int) (a:Int),a<=r.foldl max a/\∀ b∈r,b<=r.foldl max a
 | [],a=>⟨Rx _,by simp⟩
 | c::r,a=>by
  obtain⟨h1,h2⟩:=eU r (max a c)
  rw[Rh]
  refine⟨by lia,fun b hb=>?_⟩
  rcases List.mem_cons.mp hb with rfl | hb
  ·lia
  ·exact h2 b hb
theorem pK {n:Int}:∀ {l:List Value} {ns:List Int} {j:Nat},Ra l ns->ns[j]? = some n->∃ t,l[j]? = some (.int n t)
 | _,_,j,.nil,h=>by simp at h
 | _,_,0,.cons _ _ _,h=>by
  cases (show some _=some n from h)
  exact⟨_,rfl⟩
 | _,_,j+1,.cons _ _ r,h=>by
  obtain⟨t,e⟩:=pK (j:=j) r (by simpa using h)
  exact⟨t,by simpa using e⟩
def dkw (dk:Option (Int × Tok)):List (Rr × Value):=dk.toList.map fun d=>(("default" : Rr),TJ d.1 d.2)
section
variable {prog:Qt} {w:QF} {A:QG} {R:W8->Pu->Prop} {E:Value->Pu->Prop} {s:Pu}
theorem Bj {it l S:Addr} {items:Array Value} {ns:List Int} (hh:A.handled=none) (hi:Ra items.toList ns) (hne:l≠it) (hS1:S≠it) (hS2:S≠l) (kw:List (Rr × Value)) :
  ∀ (k j:Nat) (s:Pu) (b:Int) (t:Tok) (c:Nat),ns.length - j=k->j<=ns.length->s.heap.IsListIter it l j->s.heap.IsList l items →
   s.heap.get? S=some { cls:=.type "list",dict:=none,data:=.seq #[.int b t,.int b t] c,slots:=#[] } →
   (∀ t' h' tk,(∀ a o,a≠it->a≠S->s.heap.get? a=some o->h'.get? a=some o)->R (.ok (.ret (.int ((ns.drop j).foldl max b) t'))) { s with heap:=h',toks:=tk }) →
   UJ (Qo prog w) A (.builtin "max.loop" ⟨[.ref it,.none,.ref S],kw⟩) R s:=by
 have W:=Walks.list (prog:=prog) (w:=w) (A:=A.in1) hh it l hne items
 have hname:(toString "max"++toString ".loop" : String) = "max.loop":=by decide
 have hsz:items.size=ns.length:=by rw[← Qs]; exact hi.length
 intro k
 induction k with
 | zero =>
  intro j s b t c hk hj h1 h2 hS hR
  refine RQ XJ ?_; rw[Ry TX _]
  show PX _ A.in1 (Wk (.ref S) >>= _) _ _ s; refine Pn (Q8 hS rfl ?_)
  have ej:j=items.size:=by lia
  show PX _ A.in1 (tryCatch (Td (.ref it)) _ >>= _) _ _ s; refine Pn (VR (W.done s _ _ (by rw[← ej]; exact⟨h1,h2⟩) fun h' tk hm=>?_))
  have hS':=hm S _ (by simpa using hS1) hS
  show PX _ A.in1 (Xv S (fun _=>#[]) >>= _) _ _ _; refine Pn (U6 hS' rfl (Pn (TY (Py ?_))))
  rw[Vj (by lia)] at hR
  exact hR t _ tk fun a o ha hb e=>(QV _ _ (Tu hb)).trans (hm a o (by simpa using ha) e)
 | succ k ih =>
  intro j s b t c hk hj h1 h2 hS hR
  refine RQ XJ ?_; rw[Ry TX _]
  show PX _ A.in1 (Wk (.ref S) >>= _) _ _ s; refine Pn (Q8 hS rfl ?_)
  have hlt:j < ns.length:=by lia
  obtain⟨u,hu⟩:=pK hi (Px hlt)
  have ed:ns.drop j=ns[j]::ns.drop (j+1):=Te hlt
  show PX _ A.in1 (tryCatch (Td (.ref it)) _ >>= _) _ _ s; refine Pn (VR (W.item j s _ _ (by lia) ⟨h1,h2⟩ fun v h' tk hP st hm=>?_))
  obtain⟨g1,g2⟩:=st
  have ev:v = .int ns[j] u:=by
   have e:items[j]? = some v:=hP
   rw[← QR,hu] at e
   exact (QC e).symm
  subst ev
  have hS':=hm S _ (by simpa using hS1) hS
  show PX _ A.in1 (tryCatch (holding [TJ ns[j] u,TJ ns[j] u] (richCompare .Gt (.int ns[j] u) (.int b t) >>= _)) _ >>= _) _ _ _
  refine Pn (VR (SN (Pn ((CmpOf.ints_gt (P:=fun i v=>∃ t,v = .int (if i=0 then ns[j] else b) t) (fun i=>if i=0 then ns[j] else b) (fun _ _ h=>h)) 0 1 _ _ _ _ _ ⟨u,rfl⟩ ⟨t,rfl⟩ ?_))))
  refine Pn (SN (Th (Pn (TY (Py ?_)))))
  show PX _ A.in1 (if decide (ns[j] > b)=true then _ else _) _ _ _
  by_cases hb:ns[j] > b
  ·rw[if_pos (decide_eq_true hb)]
   refine Pn (U6 hS' rfl (Pn (TY ?_)))
   rw[hname]
   refine Py ⟨Su TX _,ih (j+1) _ ns[j] u _ (by lia) hlt ?_ ?_ (Q4 _ hS' rfl) fun t' h2 tk2 k2=>?_⟩
   ·exact g1.at fun o e=>(QV _ _ hS1).trans e
   ·exact g2.at fun o e=>(QV _ _ hS2).trans e
   ·have q:=hR t' h2 tk2 fun a o ha hb e=>k2 a o ha hb ((QV _ _ (Tu hb)).trans (hm a o (by simpa using ha) e))
    rw[ed,Rh,show max b ns[j]=ns[j] by lia] at q
    exact q
  ·rw[if_neg (by simpa using hb)]
   refine Pn (TY ?_)
   rw[hname]
   refine Py ⟨Su TX _,ih (j+1) _ b t c (by lia) hlt g1 g2 hS' fun t' h2 tk2 k2=>?_⟩
   have q:=hR t' h2 tk2 fun a o ha hb e=>k2 a o ha hb (hm a o (by simpa using ha) e)
   rw[ed,Rh,show max b ns[j]=b by lia] at q
   exact q
theorem yI {it l S:Addr} {items:Array Value} {ns:List Int} {c:Nat} (hh:A.handled=none) (hi:Ra items.toList ns) (hne:l≠it) (hS1:S≠it) (hS2:S≠l) (dk:Option (Int × Tok)) (hd:ns=[]->dk≠none)
  (h1:s.heap.IsListIter it l 0) (h2:s.heap.IsList l items) (hS:s.heap.get? S=some { cls:=.type "list",dict:=none,data:=.seq #[] c,slots:=#[] })
  (hR:∀ t' h' tk,(∀ a o,a≠it->a≠S->s.heap.get? a=some o->h'.get? a=some o)->R (.ok (.ret (.int (mxD ((dk.map (·.1)).getD 0) ns) t'))) { s with heap:=h',toks:=tk }) :
  UJ (Qo prog w) A (.builtin "max.loop" ⟨[.ref it,.none,.ref S],dkw dk⟩) R s:=by
 have W:=Walks.list (prog:=prog) (w:=w) (A:=A.in1) hh it l hne items
 have hname:(toString "max"++toString ".loop" : String) = "max.loop":=by decide
 have hsz:items.size=ns.length:=by rw[← Qs]; exact hi.length
 refine RQ XJ ?_; rw[Ry TX _]
 show PX _ A.in1 (Wk (.ref S) >>= _) _ _ s; refine Pn (Q8 hS rfl ?_)
 show PX _ A.in1 (tryCatch (Td (.ref it)) _ >>= _) _ _ s
 cases ns with
 | nil =>
  have e0:items.size=0:=hsz
  refine Pn (VR (W.done s _ _ (by rw[e0]; exact⟨h1,h2⟩) fun h' tk hm=>?_))
  cases dk with
  | none=>exact absurd rfl (hd rfl)
  | some d =>
   refine Pn (Ur ?_)
   exact Py (hR d.2 h' tk fun a o ha hb e=>hm a o (by simpa using ha) e)
 | cons n r =>
  obtain⟨u,hu⟩:=pK (n:=n) (j:=0) hi rfl
  refine Pn (VR (W.item 0 s _ _ (by rw[hsz]; exact Nat.succ_pos _) ⟨h1,h2⟩ fun v h' tk hP st hm=>?_))
  obtain⟨g1,g2⟩:=st
  have ev:v = .int n u:=by
   have e:items[0]? = some v:=hP
   rw[← QR,hu] at e
   exact (QC e).symm
  subst ev
  have hS':=hm S _ (by simpa using hS1) hS
  show PX _ A.in1 (Xv S (fun _=>#[TJ n u,TJ n u]) >>= _) _ _ _
  refine Pn (U6 hS' rfl ?_)
  rw[hname]
  refine Py ⟨Su TX _,Bj hh hi hne hS1 hS2 _ _ 1 _ n u _ rfl (XF (Qw _)) ?_ ?_ (Q4 _ hS' rfl) fun t' h2 tk2 k2=>?_⟩
  ·exact g1.at fun o e=>(QV _ _ hS1).trans e
  ·exact g2.at fun o e=>(QV _ _ hS2).trans e
  ·exact hR t' h2 tk2 fun a o ha hb e=>k2 a o ha hb ((QV _ _ (Tu hb)).trans (hm a o (by simpa using ha) e))
theorem Ah (a v:Value):Vy "max" ⟨[a],[("default",v)]⟩:=by unfold Vy; kernel_rfl
theorem BZ (v:Value):VN "max" ["key","default"] 0 ⟨[],[("default",v)]⟩=pure [none,some v]:=by kernel_rfl
theorem GP {l:Addr} {items:Array Value} {ns:List Int} {Q:Value->Pu->Prop} (hh:A.handled=none) (hl:s.heap.IsList l items) (hi:Ra items.toList ns) (dk:Option (Int × Tok)) (hd:ns=[]->dk≠none)
  (h:∀ t h' tk,(∀ a o,s.heap.get? a=some o->h'.get? a=some o)->Q (.int (mxD ((dk.map (·.1)).getD 0) ns) t) { s with heap:=h',toks:=tk }) :
  PX (Qo prog w) A (call (.builtin "max") [.ref l] (dkw dk)) Q E s:=by
 have ha:Vy "max" ⟨[.ref l],dkw dk⟩:=by
  cases dk with
  | none=>exact F.args_max1 _
  | some d=>exact Ah _ _
 have hb:VN "max" ["key","default"] 0 ⟨[],dkw dk⟩=pure [none,dk.map fun d=>.int d.1 d.2]:=by
  cases dk with
  | none=>rfl
  | some d=>exact BZ _
 have hname:(toString "max"++toString ".loop" : String) = "max.loop":=by decide
 refine wpAny_call (codeAny_call_builtin F.plain_max F.entry_max ?_)
 have main:PX (Qo prog w) A.in1 (Sd.«max» ⟨[.ref l],dkw dk⟩) (fun fin s'=>match fin with
   | .done f=>(match (Except.ok f:W8) with | .ok (.ret v)=>Q v s' | .ok _=>False | .error e=>E e s')
   | .again c'=>c'.quiet=true/\UJ (Qo prog w) A c' (fun r s'=>match r with | .ok (.ret v)=>Q v s' | .ok _=>False | .error e=>E e s') s') E s:=by
  show PX _ A.in1 (VN "max" ["key","default"] 0 ⟨[],dkw dk⟩ >>= _) _ _ s
  refine Pn (SM hb (Pn (Py ?_)))
  refine Pn (Up hl (Pn (QD ?_)))
  have lt:l < s.heap.objs.size:=by obtain⟨o,e,_⟩:=hl; exact Qa e
  have hs1:(s.heap.push { cls:=.type "list_iterator",data:=.fields #[.ref l,.int 0 0] }).objs.size=s.heap.objs.size+1:=Q3 ..
  rw[hname]
  have ek:(dk.map fun d=>TJ d.1 d.2).toList.map (fun d=>(("default" : Rr),d))=dkw dk:=by cases dk <;> rfl
  refine Py ⟨Su TX _,?_⟩
  show UJ _ A (.builtin "max.loop" ⟨[.ref s.heap.objs.size,.none,_],(dk.map fun d=>TJ d.1 d.2).toList.map (fun d=>(("default" : Rr),d))⟩) _ _
  rw[ek]
  refine yI hh hi (Qq lt) (by rw[hs1]; exact RV (S8 _)) (by rw[hs1]; exact RV (Rv lt)) dk hd
   ⟨_,Pr _ (PB _ rfl),rfl,rfl⟩ ((hl.push _).push _) (PB _ rfl) fun t h' tk k=>?_
  exact h t h' tk fun a o e=>k a o (Qq (Qa e)) (by rw[hs1]; exact Qq (Rv (Qa e))) (Pr _ (Pr _ e))
 simp only[XC,F.kind_max]
 cases hsig:Manifest.signature? "max" with
 | none=>exact Py main
 | some sig =>
  have ha':Bind.checkArgs "max" sig ⟨[.ref l],dkw dk⟩=pure ():=by simpa only [Vy,hsig] using ha
  simp only[ha']
  exact Py main
end
section
variable {X:Cx}
inductive Bs (K:Qp) (xs:List V) (H:Hp) (Q:VK):Prop where
 | mk (p:Addr) (ns:List Int) (z0:xs=[.ref p]) (z1:SqL K H p (ns.map V.int)) (z2:ns.length < 64) (z3:∀ ms:List Int,ms.Perm ns->ms.Pairwise (·<=·)->∀ l,H l=none->Q (.ref l) (upd H l (.lst (ms.map V.int)))):Bs K xs H Q
def wX (K:Qp):List V->Hp->VK->Prop:=fun xs H Q=>Bs K xs H Q
theorem jT:ik X (.builtin "sorted") (wX X.K):=by
 intro pins s σ H xs us Q I r h
 obtain⟨p,ns,rfl,hq,h64,q⟩:=h
 obtain⟨u,rfl,ru⟩:=vals1 r
 cases ru
 obtain⟨its,rv,pl,hz⟩:=I.list hq
 have hi:Ra its ns:=intsAre_of rv
 refine sorted_ints pl.isList hi (by have:=hi.length; lia) fun out ns' a1 a2 a3=>?_
 obtain⟨e,he⟩:=sortedAll_at s.heap its out
 have hml:(ns'.map V.int).length<=sizeLine:=by
  rw[Pq,a2.length_eq]
  exact UL (Ql h64 (by decide))
 exact⟨.ref _,_,I.JK rfl rfl (fun _ _=>sortedAll_old) (Ti _) (jM a1) hml he,rfl,q ns' a2 a3 _ (I.hok.fresh (Ti _))⟩
inductive Gz (K:Qp) (xs:List V) (H:Hp) (Q:VK):Prop where
 | mk (p:Addr) (ns:List Int) (z0:xs=[.ref p]) (z1:SqL K H p (ns.map V.int)) (z2:ns≠[]) (z3:Q (.int (mxD 0 ns)) H):Gz K xs H Q
def Fq (K:Qp):List V->Hp->VK->Prop:=fun xs H Q=>Gz K xs H Q
theorem mR (hc:X.calm=true):ik X (.builtin "max") (Fq X.K):=by
 intro pins s σ H xs us Q I r h
 obtain⟨p,ns,rfl,hq,hne,q⟩:=h
 obtain⟨u,rfl,ru⟩:=vals1 r
 cases ru
 obtain⟨its,rv,pl,hz⟩:=I.list hq
 exact GP (I.ok.hd hc) pl.isList (show Ra its.toArray.toList ns from intsAre_of rv) none (fun e=>absurd e hne) fun t h' tk k=>⟨.int _,H,I.kept (t':=tk) k,⟨_,rfl⟩,q⟩
def NZ (K:Qp) (d:Int) (te:TA):TE:=fun σ H Q=>te σ H fun xs H1=>∃ (p:Addr) (ns:List Int),xs=[.ref p]/\SqL K H1 p (ns.map V.int)/\Q (.int (mxD d ns)) H1
theorem Jk {e:Expr} {te:TA} {d:Int} {j} {p pos kp cp:Vk} (hc:X.calm=true) (hg:Gl X "max") (hm:X.mg "max" = none) (ha:PA X [e] te)
  (hb:QZ "max" = some (.builtin "max"):=by decide+kernel)
  (he:Ul pos (Qv [e] X.env)=(false,S6 e X.env)::Ul pos (Qv [] X.env):=by rfl) (hp:(Ul pos (Qv [e] X.env)).any (·.1)=false:=by rfl) :
  PE X (.Call (.Name "max" p) [e] [⟨some "default",.Constant (.int d) j cp,kp⟩] pos) (NZ X.K d te):=by
 intro pins s σ H Q I h
 refine Sh (fM I hg hm hb ?_ (by decide) (by decide))
 refine callWith_kw (thn (ha pos pins s σ H _ I h) fun us s1 ⟨vs,H1,I1,r1,q⟩=>?_) he hp
 obtain⟨a,ns,rfl,hq,q⟩:=q
 obtain⟨u,rfl,ru⟩:=vals1 r1
 cases ru
 refine kws_cons (wpAny_Constant_int (kws_nil ?_))
 have I2:Inv X pins σ H1 { s1 with toks:=s1.toks+1 }:=I1.tok _
 obtain⟨its,rv,pl,hz⟩:=I2.list hq
 exact GP (I.ok.hd hc) pl.isList (show Ra its.toArray.toList ns from intsAre_of rv) (some (d,_)) (fun _ z=>nomatch z) fun t h' tk k=>⟨.int _,H1,I2.kept (t':=tk) k,⟨_,rfl⟩,q⟩
end
end L2
namespace L2
open PySem PySem.Spec PyProof.Rows
theorem Dl:Manifest.owners.lookup (String.ofList ['d','e','s','r','e','v','e','r'].reverse)=some Manifest.sig_reversed:=by kernel_rfl
theorem dC:Slot "reversed" "__next__" "reversed.__next__" :=
 .of (owner:="reversed") (n:="__next__") (by rw[U7,S9]; kernel_rfl) (by decide+kernel) (by decide+kernel) (by decide+kernel) (by first | exact .inl (by decide+kernel) | exact .inr (by decide+kernel)) (by rw[Tz]; kernel_rfl)
theorem qG:Slot "reversed" "__init__" "object.__init__" :=
 .of (owner:="object") (n:="__init__") (by rw[U7,S9]; kernel_rfl) (by decide+kernel) (by decide+kernel) (by decide+kernel) (by first | exact .inl (by decide+kernel) | exact .inr (by decide+kernel)) (by rw[Tz]; kernel_rfl)
theorem iQ:entryFor table "reversed.__next__" = some Sd.«reversed.__next__»:=entryFor_of_tree (by kernel_rfl)
theorem jL (a:Value):Vy "reversed.__next__" ⟨[a],[]⟩:=by
 unfold Vy
 rw[We (id:="reversed.__next__") (n:=['_','_','t','x','e','n','_','_']) (o:=['d','e','s','r','e','v','e','r']) (by kernel_rfl) Dl]
 kernel_rfl
theorem jx:Slot "reversed" "__iter__" "reversed.__iter__" :=
 .of (owner:="reversed") (n:="__iter__") (by rw[U7,S9]; kernel_rfl) (by decide+kernel) (by decide+kernel) (by decide+kernel) (by first | exact .inl (by decide+kernel) | exact .inr (by decide+kernel)) (by rw[Tz]; kernel_rfl)
theorem ou:entryFor table "reversed.__iter__" = some Sd.«dict_keyiterator.__iter__»:=entryFor_alias (id':="dict_keyiterator.__iter__") (by kernel_rfl) rfl (by decide+kernel) (by kernel_rfl)
theorem qg (a:Value):Vy "reversed.__iter__" ⟨[a],[]⟩:=by
 unfold Vy
 rw[We (id:="reversed.__iter__") (n:=['_','_','r','e','t','i','_','_']) (o:=['d','e','s','r','e','v','e','r']) (by kernel_rfl) Dl]
 kernel_rfl
theorem xU:TypeCalled "reversed" "reversed.__new__" "object.__init__" :=
 ⟨by decide+kernel,by decide+kernel,⟨_,_,F.mro_reversed⟩,F.made_reversed,by decide+kernel,by rw[Tz]; kernel_rfl,qG⟩
theorem sJ:typeLookup (.type "tuple") "__reversed__" = pure none:=by rw[U7,S9]; kernel_rfl
theorem sV:isSubtype (.type "tuple") (.type "dict")=pure false:=by rw[Tz]; kernel_rfl
def RIt (h:Q7) (I t:Addr) (i:Int):Prop:=h.get? I=some { cls:=.type "reversed",dict:=none,data:=.fields #[.ref t,.int i 0],slots:=#[] }
theorem En (a:Value):Yc "reversed" ⟨[.type "reversed",a],[]⟩=pure (.type "reversed",[a]):=by
 unfold Yc
 simp only[isType,F.sub_reversed_self,pure_bind,Bool.not_true,V7,if_false]
theorem Eh (t:Addr) (items:Array Value) (hf:(items.size:Int) < 2 ^ 63) :
  Meets (Sd.«reversed.__new__» ⟨[.type "reversed",.ref t],[]⟩) (fun _ R s=>IsTup s.heap t items/\R (.ok (.ret (.ref s.heap.objs.size))) { s with heap:=s.heap.push { cls:=.type "reversed",data:=.fields #[.ref t,.int ((items.size:Int) - 1) 0] },toks:=s.toks+1+1 }) :=
 .of_wp fun prog w A R s h=>by
  obtain⟨ht,h⟩:=h
  unfold Sd.«reversed.__new__»
  refine Pn (SM (En _) ?_)
  try dsimp only
  refine Pn (SM (a:=()) (by first | rfl | kernel_rfl) (Pn (SM (a:=()) (by first | rfl | kernel_rfl) ?_)))
  try dsimp only
  refine Pn (Vx ht.typeIs sJ ?_)
  try dsimp only
  refine (show PX _ _ ((isInstance (.ref t) (.type "dict") >>= _) >>= _) _ _ s from Pn (Pn (Tw ht.typeIs sV ?_)))
  rw[if_neg PQ]
  refine Pn (Vx ht.typeIs slot_tuple_getitem.lookup ?_)
  dsimp only
  rw[if_pos (by decide+kernel)]
  refine Py ?_
  rw[if_neg (by simp)]
  refine Pn (len_tuple ht hf ?_)
  refine Pn (SM (a:=some ((items.size:Nat):Int)) rfl ?_)
  dsimp only
  refine Pn ?_
  refine (show PX _ _ (newObj (.type "reversed") (.fields #[.ref t,RB ((items.size:Int) - 1)])) _ _ _ from QD ?_)
  exact Py ⟨_,rfl,h⟩
section
variable {prog:Qt} {w:QF} {A:QG} {E:Value->Pu->Prop} {s:Pu}
theorem zR {t:Addr} {items:Array Value} {Q:Value->Pu->Prop} (ht:IsTup s.heap t items) (hf:(items.size:Int) < 2 ^ 63)
  (h:Q (.ref s.heap.objs.size) { s with heap:=s.heap.push { cls:=.type "reversed",data:=.fields #[.ref t,.int ((items.size:Int) - 1) 0] },toks:=s.toks+1+1 }):PX (Qo prog w) A (call (.type "reversed") [.ref t]) Q E s:=by
 refine Xh xU (by decide) (F.typeCall_reversed_1 _) (F.newCall_reversed_1 _) (fun obj=>F.args_object_init_2 obj _) F.entry_reversed_new (Eh t items hf) ⟨ht,?_⟩
 exact⟨⟨_,PB _ rfl,rfl⟩,h⟩
theorem Fv {it t:Addr} {i:Nat} {items:Array Value} {x:Value} {Q:Option Value->Pu->Prop} (hit:RIt s.heap it t (i:Int)) (ht:IsTup s.heap t items) (hi:(i:Int) < 2 ^ 63) (hx:items[i]? = some x)
  (hQ:∀ h',RIt h' it t ((i:Int) - 1)->R9 it s.heap h'->Q (some x) { s with heap:=h',toks:=s.toks+1 }):PX (Qo prog w) A (Td (.ref it)) Q E s:=by
 have hT:s.TypeIs (.ref it) "reversed":=⟨_,hit,rfl⟩
 unfold Td
 refine Pn (SQ (QW (name:=R7 "__next__") hT dC (Q6 dC hT iQ ?_ (jL _))))
 unfold Sd.«reversed.__next__»
 refine Pn (SM (a:=(QK it,[])) rfl ?_)
 dsimp only
 refine Pn (QS hit rfl (x:=.ref t) rfl (Pn (QS hit rfl (x:=.int (i:Int) 0) rfl ?_)))
 dsimp only
 rw[if_neg (by lia)]
 refine Pn (Vx ht.typeIs slot_tuple_getitem.lookup ?_)
 rw[if_neg (by simp)]
 refine Pn (wpAny_mkInt ?_)
 have hsz:i < items.size:=(Array.getElem?_eq_some_iff.mp hx).1
 have hk:Xx (i:Int) items.size=some i:=by
  have e0:¬ ((i:Int) < 0):=by lia
  unfold Xx
  simp only[if_neg e0]
  simp [hsz]
 refine Pn (SQ (getItem_tuple (s:={ s with toks:=s.toks+1 }) (show IsTup s.heap t items from ht) (by lia) hi hk hx ?_))
 dsimp only
 refine Pn (QS (s:={ s with toks:=s.toks+1 }) hit rfl (x:=.int (i:Int) 0) rfl ?_)
 dsimp only
 refine Pn (R6 (s:={ s with toks:=s.toks+1 }) hit rfl (by simp) ?_)
 refine Py ⟨x,rfl,Py (hQ _ ?_ (Rj ..))⟩
 exact Q4 (Vp (·.setIfInBounds 1 (RB ((i:Int) - 1)))) hit rfl
theorem JR {it t:Addr} {Q:Option Value->Pu->Prop} (hh:A.handled=none) (hit:RIt s.heap it t (-1)) (hQ:∀ h',Heap.ExtBut it s.heap h'->Q none { s with heap:=h' }):PX (Qo prog w) A (Td (.ref it)) Q E s:=by
 have hT:s.TypeIs (.ref it) "reversed":=⟨_,hit,rfl⟩
 unfold Td
 refine Pn (SQ (QW (name:=R7 "__next__") hT dC (Q6 dC hT iQ ?_ (jL _))))
 unfold Sd.«reversed.__next__»
 refine Pn (SM (a:=(QK it,[])) rfl ?_)
 dsimp only
 refine Pn (QS hit rfl (x:=.ref t) rfl (Pn (QS hit rfl (x:=.int (-1) 0) rfl ?_)))
 dsimp only
 rw[if_pos (by decide)]
 refine Pn (Ur ?_)
 refine Pn ?_
 refine (show PX _ _ (setField (.ref it) 1 (RB (-1)) >>= _) _ _ s from Pn (R6 hit rfl (by simp) ?_))
 have g1:=Q4 (Vp (·.setIfInBounds 1 (RB (-1)))) hit rfl
 refine R6 g1 rfl (by simp) ?_
 refine Pn ?_
 refine (show PX _ _ (Xz (.type "StopIteration") [] >>= _) _ _ _ from Pn ?_)
 simp only[Xz,newTuple]
 refine Pn (QD ?_ (by size_fits))
 refine Pn (m:=TF _ _) (SM (a:=QT) (by first | rfl | (simp only[TF]; rfl)) (QD ?_ (by size_fits)))
 simp only[raiseNew]
 refine Pn (WY ?_)
 first | rw[show A.in1.handled=none from hh] | rw[hh]
 refine Pn (Py (XN ?_))
 refine Pn (Tw (T:="StopIteration") (b:=true) ⟨_,PB _ rfl,rfl⟩ V1 (Py ?_))
 exact hQ _ ((((Rj ..).trans (Rj ..)).extBut.push _).push _)
theorem vW {it t:Addr} {i:Int} {Q:Value->Pu->Prop} (hI:RIt s.heap it t i) (h:Q (.ref it) s):PX (Qo prog w) A (pyIter (.ref it)) Q E s:=by
 have hT:s.TypeIs (.ref it) "reversed":=⟨_,hI,rfl⟩
 refine Xc hT jx (Q6 jx hT ou (show PX _ _ (ret (.ref it)) _ _ s from ?_) (qg _))
 exact Py ⟨_,rfl,"reversed",_,hT,dC.lookup,h⟩
end
def Itv (K:Qp) (a:Addr) (n:Nat):It :=
 ⟨fun i H=>i < n/\∃ xs x,SqT K H a xs/\xs.length=n/\xs[n - 1 - i]? = some x,fun i H x H'=>H'=H/\∀ xs,SqT K H a xs->xs[n - 1 - i]? = some x,fun i _=>i=n⟩
theorem FT {P:Qt} {w:QF} {K:Qp} {tg:Expr} (a it:Addr) (n:Nat) (hn:(n:Int) < 2 ^ 63):Turn P w K tg (Itv K a n) [it] it (fun i h=>RIt h it a ((n:Int) - 1 - (i:Int))) where
 mem:=by simp
 obj:=fun i h st b hb=>by
  have e:b=it:=by simpa using hb
  subst e
  exact⟨_,st,fun v z=>by cases (show Data.fields _=Data.cell v from z)⟩
 keep:=fun i h h' st k=>k it (by simp) _ st
 item:=by
  intro X hP hw hK hc i pins s σ H E I hf st hg
  subst hP hw hK
  obtain⟨hin,xs,x,hq,hlen,hx⟩:=hg
  obtain⟨its,rv,p,hz⟩:=I.tuple hq
  obtain⟨u,hu,ru⟩:=rv.get hx
  obtain⟨f0,f1,f2,f3,f4,f5⟩:=hf it (by simp)
  have e:(n:Int) - 1 - (i:Int)=((n - 1 - i:Nat):Int):=by lia
  have st':RIt s.heap it a ((n - 1 - i:Nat):Int):=by rw[← e]; exact st
  refine Fv st' p (by lia) (x:=u) (by simpa using hu) fun h' st2 sb=>?_
  have e2:((n - 1 - i:Nat):Int) - 1=(n:Int) - 1 - ((i+1:Nat):Int):=by lia
  rw[e2] at st2
  have I1:Inv X pins σ H { s with heap:=h',toks:=s.toks+1 }:=I.turned (t':=s.toks+1) (fun b o hb e=>(sb.2 b hb).trans e) f0 f1 f3 f4 f5
  exact⟨u,rfl,Fp (s:={ s with heap:=h',toks:=s.toks+1 }) st2 rfl rfl (by decide) ⟨x,H,I1,ru,⟨rfl,fun ys hy=>by rw[I.gG hy hq]; exact hx⟩,st2,fun b hb=>(hf b hb).1⟩⟩
 done:=by
  intro X hP hw hK hc i pins s σ H E I hf st hg
  subst hP hw hK
  cases (show i=n from hg)
  obtain⟨f0,f1,f2,f3,f4,f5⟩:=hf it (by simp)
  have st':RIt s.heap it a (-1):=by
   have e:(n:Int) - 1 - (n:Int) = -1:=by lia
   rw[← e]; exact st
  exact JR (I.ok.hd hc) st' fun h' eb=>⟨rfl,I.turned (t':=s.toks) (fun b o hb e=>eb b o hb e) f0 f1 f3 f4 f5⟩
 self:=fun _ _ _ _ _ st h=>vW st h
def O5 (K:Qp) (ta:TA):TI:=fun σ H R=>ta σ H fun vs H1=>∃ a xs,vs=[.ref a]/\SqT K H1 a xs/\R (Itv K a xs.length) H1
theorem KZ {X:Cx} {tg:Expr} {a:Expr} {ta:TA} {p pos:Vk} (hg:Gl X "reversed") (hm:X.mg "reversed" = none) (ha:PA X [a] ta) (hs:Qv [a] X.env=[(false,S6 a X.env)]:=by rfl) :
  PI X tg (.Call (.Name "reversed" p) [a] [] pos) (O5 X.K ta):=by
 intro pins s σ H R I h
 refine Call_ (fM I hg hm boot_reversed (Q5 (thn (ha pos pins s σ H _ I h) fun us s1 ⟨vs,H1,I1,r1,q1⟩=>?_) hs rfl))
 obtain⟨c,xs,e,hx,q⟩:=q1
 subst e
 obtain⟨u1,rfl,ru1⟩:=vals1 r1
 cases ru1
 obtain⟨its,rv,tp,hz⟩:=I1.tuple hx
 have hl:=rv.length
 have hn:=sE
 have hsz:((its.toArray.size:Nat):Int) < 2 ^ 63:=by rw[P0,← hl]; lia
 refine zR tp hsz ?_
 have g:RIt (s1.heap.push { cls:=.type "reversed",data:=.fields #[.ref c,.int ((its.toArray.size:Int) - 1) 0] }) s1.heap.objs.size c ((xs.length:Int) - 1 - ((0:Nat):Int)):=by
  have e:((xs.length:Int) - 1 - ((0:Nat):Int))=(its.toArray.size:Int) - 1:=by rw[P0,← hl]; lia
  rw[e]
  exact PB _ rfl
 refine vW g ⟨s1.heap.objs.size,[s1.heap.objs.size],_,_,H1,rfl,I1.kept (t':=s1.toks+1+1) fun b o e=>Pr _ e,FT c _ xs.length (by lia),g,fun b hb=>?_,q⟩
 have e:b=s1.heap.objs.size:=by simpa using hb
 subst e
 exact I1.Ef (PK _) (I1.hok.fresh (PK _))
theorem J5 {K:Qp} {a:Addr} {xs:List V} {g:TG} {tb:TS} {D:Ends} {σ:St} {H:Hp} (Pv:Nat->St->Hp->Prop) (h0:Pv 0 σ H) (hl:∀ i σ H,i<=xs.length->Pv i σ H->SqT K H a xs)
  (hs:∀ i x σ H,i < xs.length->xs[xs.length - 1 - i]? = some x->Pv i σ H->g x σ H fun σ2 H2=>tb { D with nx:=Pv (i+1),ct:=Pv (i+1),bk:=D.nx } σ2 H2) (hd:∀ σ H,Pv xs.length σ H->D.nx σ H) :
  ∃ W:Nat->Nat->St->Hp->Prop,(∃ m,W 0 m σ H)/\∀ i m σ H,W i m σ H →
   ((Itv K a xs.length).stop i H/\D.nx σ H)∨((Itv K a xs.length).go i H/\∃ N:St->Hp->Prop,(∀ σ' H',N σ' H'->∃ m',m' < m/\W (i+1) m' σ' H')/\∀ x H',(Itv K a xs.length).yld i H x H'->g x σ H' fun σ2 H2=>tb { D with nx:=N,ct:=N,bk:=D.nx } σ2 H2):=by
 refine⟨fun i m σ H=>m=xs.length - i/\i<=xs.length/\Pv i σ H,⟨xs.length,by simp,Qw _,h0⟩,?_⟩
 rintro i m σ H ⟨rfl,hi,p⟩
 have q1:=hl i σ H hi p
 by_cases hlt:i < xs.length
 ·refine .inr ⟨⟨hlt,xs,xs[xs.length - 1 - i],q1,rfl,Px (by lia)⟩,Pv (i+1),fun σ' H' p'=>⟨xs.length - (i+1),by lia,rfl,hlt,p'⟩,fun v H' y=>?_⟩
  obtain⟨rfl,hx⟩:=y
  exact hs i v σ _ hlt (hx xs q1) p
 ·have e:i=xs.length:=by lia
  subst e
  exact .inl ⟨rfl,hd σ H p⟩
end L2
namespace L2
open PySem PySem.Spec PyProof.Rows
section
variable {prog:Qt} {w:QF} {A:QG} {E:Value->Pu->Prop} {s:Pu}
theorem lF {h h':Q7} {a t:Addr} {its:Array Value} (ht:h.IsList t its) (sb:R9 a h h') (ne:t≠a):h'.IsList t its:=by
 obtain⟨o,e,r⟩:=ht
 exact⟨o,(sb.2 t ne).trans e,r⟩
theorem cR {h h':Q7} {a it t:Addr} {i:Nat} (ht:h.IsListIter it t i) (sb:R9 a h h') (ne:it≠a):h'.IsListIter it t i:=by
 obtain⟨o,e,r⟩:=ht
 exact⟨o,(sb.2 it ne).trans e,r⟩
theorem HS {z p q i1 i2 l1 l2:Addr} {k:Nat} {xs ys:Array Value} {x y a b:Value} {Q:Option Value->Pu->Prop} (D:Zap z p q i1 i2 l1 l2)
  (hz:Uh s.heap z p q .none) (hp:U3 s.heap p (.ref i1) (.ref i2)) (hq:U3 s.heap q a b) (j1:s.heap.IsTupleIter i1 l1 k) (j2:s.heap.IsListIter i2 l2 k) (t1:s.heap.IsTuple l1 xs) (t2:s.heap.IsList l2 ys)
  (hx:xs[k]? = some x) (hy:ys[k]? = some y)
  (hQ:∀ h',Uh h' z p q (RB s.heap.objs.size)->U3 h' q x y->h'.IsTupleIter i1 l1 (k+1)->h'.IsListIter i2 l2 (k+1)->U3 h' s.heap.objs.size x y->h'.objs.size=s.heap.objs.size+1 →
   (∀ c o,c≠z->c≠q->c≠i1->c≠i2->s.heap.get? c=some o->h'.get? c=some o)->Q (some (.ref s.heap.objs.size)) { s with heap:=h' }):PX (Qo prog w) A (Td (.ref z)) Q E s:=by
 have hT:s.TypeIs (.ref z) "zip":=⟨_,hz,rfl⟩; unfold Td
 refine Pn (SQ (QW (name:=R7 "__next__") hT Tg (Q6 Tg hT Wr ?_ (Wd _))))
 show PX _ _ (W0 (.ref z) 2 >>= _) _ _ _; refine Pn (QS hz rfl (x:=.bool false) rfl ?_)
 show PX _ _ (W0 (.ref z) 3 >>= _) _ _ _; refine Pn (QS hz rfl (x:=.ref p) rfl ?_); refine Pn (Q8 hp rfl ?_)
 show PX _ _ (QX (.ref z) >>= _) _ _ _; refine Pn ?_; unfold QX
 refine Pn (QS hz rfl (x:=.none) rfl (Py ?_)); simp only[if_true]; refine Pn (Ur ?_); refine Pn (QS hz rfl (x:=.ref q) rfl ?_)
 refine Pn (Rz hz (by simp) fun h1 z1 b1=>?_); replace z1:Uh h1 z p q .ellipsis:=z1
 refine Pn ?_; simp only[Wm,WD,U8,Vh]; refine Pn (Pn (Uj ?_))
 show PX _ _ (QM (.ref i1) >>= _) _ _ _; refine Pn (nO (cW j1 b1 D.az) (gY t1 b1 D.xz) hx fun h2 u1 b2=>Py ?_)
 have q2:U3 h2 q a b:=(b2.2 _ D.qa).trans ((b1.2 _ D.qz).trans hq); refine Pn (Q8 q2 rfl ?_); refine Pn (WM q2 fun h3 q3 b3=>?_)
 replace q3:U3 h3 q x b:=q3; refine Pn (TY (Py ?_)); refine Pn (Pn (Uj ?_))
 show PX _ _ (QM (.ref i2) >>= _) _ _ _
 refine Pn (wpAny_nextOf_list_item (cR (cR (cR j2 b1 D.bz) b2 D.ab.symm) b3 D.qb.symm) (lF (lF (lF t2 b1 D.yz) b2 D.ya) b3 D.yq) hy fun h4 u2 b4=>Py ?_)
 have q4:U3 h4 q x b:=(b4.2 _ D.qb).trans q3; refine Pn (Q8 q4 rfl ?_); refine Pn (WM q4 fun h5 q5 b5=>?_)
 replace q5:U3 h5 q x y:=q5; refine Pn (TY (Py (Py ?_))); refine Pn (Q8 q5 rfl ?_); refine Pn (wpAny_newTuple ?_)
 have sz:h5.objs.size=s.heap.objs.size:=by rw[b5.1,b4.1,b3.1,b2.1,b1.1]
 have z5:Uh h5 z p q .ellipsis:=(b5.2 _ D.qz.symm).trans ((b4.2 _ D.bz.symm).trans ((b3.2 _ D.qz.symm).trans ((b2.2 _ D.az.symm).trans z1)))
 have kp:∀ c o,c≠z->c≠q->c≠i1->c≠i2->s.heap.get? c=some o->h5.get? c=some o:=fun c o c1 c2 c3 c4 e=>(b5.2 c c2).trans ((b4.2 c c4).trans ((b3.2 c c2).trans ((b2.2 c c3).trans ((b1.2 c c1).trans e))))
 have u15:h5.IsTupleIter i1 l1 (k+1):=cW (cW (cW u1 b3 D.qa.symm) b4 D.ab) b5 D.qa.symm
 have u25:h5.IsListIter i2 l2 (k+1):=cR u2 b5 D.qb.symm
 have zl:z < h5.objs.size:=Qa z5
 show PX _ _ (SJ (.ref z) (.ref h5.objs.size) >>= _) _ _ _; refine Pn ?_; unfold SJ
 have z6:Uh (h5.push { cls:=.type "tuple",data:=.seq #[x,y] }) z p q .ellipsis:=Pr _ z5
 refine Pn (Rz z6 (by simp) fun h7 z7 b7=>?_); replace z7:Uh h7 z p q (RB h5.objs.size):=z7
 refine Rz z7 (by simp) fun h8 z8 b8=>?_; replace z8:Uh h8 z p q (RB h5.objs.size):=z8
 have up:∀ c o,c≠z->h5.get? c=some o->h8.get? c=some o:=fun c o c1 e=>(b8.2 c c1).trans ((b7.2 c c1).trans (Pr _ e))
 have t8:U3 h8 h5.objs.size x y:=(b8.2 _ (RV zl)).trans ((b7.2 _ (RV zl)).trans (PB _ rfl))
 have s8:h8.objs.size=h5.objs.size+1:=by rw[b8.1,b7.1,Q3]
 rw[sz] at z8 t8 s8; refine Py ⟨_,rfl,?_⟩
 show PX _ _ _ _ _ _
 rw[sz]
 exact Py (hQ h8 z8 (up _ _ D.qz q5) (by obtain⟨o,e,r⟩:=u15; exact⟨o,up _ o D.az e,r⟩) (by obtain⟨o,e,r⟩:=u25; exact⟨o,up _ o D.bz e,r⟩) t8 s8 fun c o c1 c2 c3 c4 e=>up c o c1 (kp c o c1 c2 c3 c4 e))
theorem J4 {z p q i1 i2 l1 l2:Addr} {k:Nat} {xs ys:Array Value} {a b:Value} {Q:Fin->Pu->Prop} (hh:A.handled=none) (D:Zap z p q i1 i2 l1 l2)
  (hz:Uh s.heap z p q .none) (hp:U3 s.heap p (.ref i1) (.ref i2)) (hq:U3 s.heap q a b) (j1:s.heap.IsTupleIter i1 l1 k) (j2:s.heap.IsListIter i2 l2 k) (t1:s.heap.IsTuple l1 xs) (t2:s.heap.IsList l2 ys)
  (hend:xs[k]? = none∨ys[k]? = none) (hE:∀ h' e,(∀ c o,c≠z->c≠q->c≠i1->c≠i2->s.heap.get? c=some o->h'.get? c=some o)->(∃ o,h'.get? e=some o/\o.cls = .type "StopIteration")->E (.ref e) { s with heap:=h' }) :
  PX (Qo prog w) A (Sd.«zip.__next__» ⟨[.ref z],[]⟩) Q E s:=by
 show PX _ _ (W0 (.ref z) 2 >>= _) _ _ _; refine Pn (QS hz rfl (x:=.bool false) rfl ?_)
 show PX _ _ (W0 (.ref z) 3 >>= _) _ _ _; refine Pn (QS hz rfl (x:=.ref p) rfl ?_); refine Pn (Q8 hp rfl ?_)
 show PX _ _ (QX (.ref z) >>= _) _ _ _; refine Pn ?_; unfold QX
 refine Pn (QS hz rfl (x:=.none) rfl (Py ?_)); simp only[if_true]; refine Pn (Ur ?_); refine Pn (QS hz rfl (x:=.ref q) rfl ?_)
 refine Pn (Rz hz (by simp) fun h1 z1 b1=>?_); replace z1:Uh h1 z p q .ellipsis:=z1
 refine Pn ?_; simp only[Wm,WD,U8,Vh]; refine Pn (Pn (Uj ?_))
 show PX _ _ (QM (.ref i1) >>= _) _ _ _
 cases hx:xs[k]? with
 | none =>
  refine Pn (Gg hh (cW j1 b1 D.az) (gY t1 b1 D.xz) hx fun h2 e b2 he=>?_)
  obtain⟨oe,ho,hc⟩:=he
  have z2:Uh h2 z p q .ellipsis:=b2 _ _ D.az.symm z1
  have ez:e≠z:=fun u=>by subst u; rw[z2] at ho; cases ho; simp at hc
  exact Rz z2 (by simp) fun h3 _ b3=>hE h3 e (fun c o c1 _ c3 _ u=>(b3.2 c c1).trans (b2 _ _ c3 ((b1.2 c c1).trans u))) ⟨oe,(b3.2 e ez).trans ho,hc⟩
 | some x =>
  have hy:ys[k]? = none:=hend.elim (fun u=>by rw[hx] at u; cases u) id
  refine Pn (nO (cW j1 b1 D.az) (gY t1 b1 D.xz) hx fun h2 u1 b2=>Py ?_)
  have q2:U3 h2 q a b:=(b2.2 _ D.qa).trans ((b1.2 _ D.qz).trans hq); refine Pn (Q8 q2 rfl ?_); refine Pn (WM q2 fun h3 q3 b3=>?_)
  refine Pn (TY (Py ?_)); refine Pn (Pn (Uj ?_)); show PX _ _ (QM (.ref i2) >>= _) _ _ _
  refine Pn (wpAny_nextOf_list_end hh (cR (cR (cR j2 b1 D.bz) b2 D.ab.symm) b3 D.qb.symm) (lF (lF (lF t2 b1 D.yz) b2 D.ya) b3 D.yq) hy fun h4 e b4 he=>?_)
  obtain⟨oe,ho,hc⟩:=he
  have z4:Uh h4 z p q .ellipsis:=b4 _ _ D.bz.symm ((b3.2 _ D.qz.symm).trans ((b2.2 _ D.az.symm).trans z1))
  have ez:e≠z:=fun u=>by subst u; rw[z4] at ho; cases ho; simp at hc
  exact Rz z4 (by simp) fun h5 _ b5=>hE h5 e (fun c o c1 c2 c3 c4 u=>(b5.2 c c1).trans (b4 _ _ c4 ((b3.2 c c2).trans ((b2.2 c c3).trans ((b1.2 c c1).trans u))))) ⟨oe,(b5.2 e ez).trans ho,hc⟩
theorem LC {z p q i1 i2 l1 l2:Addr} {k:Nat} {xs ys:Array Value} {a b:Value} {Q:Option Value->Pu->Prop} (hh:A.handled=none) (D:Zap z p q i1 i2 l1 l2)
  (hz:Uh s.heap z p q .none) (hp:U3 s.heap p (.ref i1) (.ref i2)) (hq:U3 s.heap q a b) (j1:s.heap.IsTupleIter i1 l1 k) (j2:s.heap.IsListIter i2 l2 k) (t1:s.heap.IsTuple l1 xs) (t2:s.heap.IsList l2 ys)
  (hend:xs[k]? = none∨ys[k]? = none) (hQ:∀ h',(∀ c o,c≠z->c≠q->c≠i1->c≠i2->s.heap.get? c=some o->h'.get? c=some o)->Q none { s with heap:=h' }):PX (Qo prog w) A (Td (.ref z)) Q E s:=by
 have hT:s.TypeIs (.ref z) "zip":=⟨_,hz,rfl⟩; unfold Td
 refine Pn (SQ (QW (name:=R7 "__next__") hT Tg (Q6 Tg hT Wr (J4 hh D hz hp hq j1 j2 t1 t2 hend fun h' e kp he=>?_) (Wd _))))
 obtain⟨o,ho,hc⟩:=he
 exact Pn (Tw (T:="StopIteration") (b:=true) ⟨o,ho,hc⟩ V1 (Py (hQ _ kp)))
abbrev uB (h:Q7) (t:Addr):Q7:=h.push { cls:=.type "list_iterator",data:=.fields #[.ref t,.int 0 0] }
abbrev uC (h:Q7) (t u:Addr):Q7:=(uB (zA h t) u).push { cls:=.type "tuple",data:=.seq #[.ref h.objs.size,.ref (zA h t).objs.size] }
abbrev uD (h:Q7) (t u:Addr):Q7:=(uC h t u).push { cls:=.type "tuple",data:=.seq #[.none,.none] }
abbrev uE (h:Q7) (t u:Addr):Q7:=(uD h t u).push { cls:=.type "zip",data:=.fields #[.none,.bool false,.bool false,.ref (uB (zA h t) u).objs.size,.ref (uC h t u).objs.size] }
theorem K9 (l1 l2:Addr) (xs ys:Array Value) :
  Meets (Sd.«zip.__new__» ⟨[.type "zip",.ref l1,.ref l2],[]⟩) (fun _ R s=>s.heap.IsTuple l1 xs/\s.heap.IsList l2 ys/\R (.ok (.ret (.ref (uD s.heap l1 l2).objs.size))) { s with heap:=uE s.heap l1 l2 }) :=
 .of_wp fun prog w A R s h=>by
  obtain⟨hp,g,d,tk,os⟩:=s; obtain⟨a1,a2,h⟩:=h; have hsub:=sub_zip
  have T1:Xo (Wb ⟨hp,g,d,tk,os⟩) l1 xs:=a1
  have T2:Heap.IsList (Wb ⟨hp.push { cls:=.type "tuple_iterator",data:=.fields #[.ref l1,.int 0 0] },g,d,tk,os⟩) l2 ys:=by
   obtain⟨o,e,r⟩:=a2
   exact⟨o,Pr _ e,r⟩
  wp_walk using T9 T1,Up T2
  exact⟨_,rfl,h⟩
theorem Io {l1 l2:Addr} {xs ys:Array Value} {Q:Value->Pu->Prop} (t1:s.heap.IsTuple l1 xs) (t2:s.heap.IsList l2 ys)
  (h:∀ h',Uh h' (s.heap.objs.size+4) (s.heap.objs.size+2) (s.heap.objs.size+3) .none->U3 h' (s.heap.objs.size+2) (.ref s.heap.objs.size) (.ref (s.heap.objs.size+1))->U3 h' (s.heap.objs.size+3) .none .none →
   h'.IsTupleIter s.heap.objs.size l1 0->h'.IsListIter (s.heap.objs.size+1) l2 0->(∀ c o,s.heap.get? c=some o->h'.get? c=some o)->Q (.ref (s.heap.objs.size+4)) { s with heap:=h' }) :
  PX (Qo prog w) A (call (.type "zip") [.ref l1,.ref l2]) Q E s:=by
 refine Xh F.called_zip (by decide) (F.typeCall_zip_2 _ _) (F.newCall_zip_2 _ _) (fun obj=>F.args_object_init_3 obj _ _) F.entry_zip_new (K9 l1 l2 xs ys) ⟨t1,t2,?_⟩
 have y1:(zA s.heap l1).objs.size=s.heap.objs.size+1:=Q3 ..
 have y2:(uB (zA s.heap l1) l2).objs.size=s.heap.objs.size+2:=by rw[Q3,y1]
 have y3:(uC s.heap l1 l2).objs.size=s.heap.objs.size+3:=by rw[Q3,y2]
 have y4:(uD s.heap l1 l2).objs.size=s.heap.objs.size+4:=by rw[Q3,y3]
 have w5:(uE s.heap l1 l2).get? (uD s.heap l1 l2).objs.size=some _:=PB _ rfl
 have w4:(uE s.heap l1 l2).get? (uC s.heap l1 l2).objs.size=some _:=Pr _ (PB _ rfl)
 have w3:(uE s.heap l1 l2).get? (uB (zA s.heap l1) l2).objs.size=some _:=Pr _ (Pr _ (PB _ rfl))
 have w2:(uE s.heap l1 l2).get? (zA s.heap l1).objs.size=some _:=Pr _ (Pr _ (Pr _ (PB _ rfl)))
 have w1:(uE s.heap l1 l2).get? s.heap.objs.size=some _:=Pr _ (Pr _ (Pr _ (Pr _ (PB _ rfl))))
 show _/\_
 rw[y2,y3,y4] at w5; rw[y1,y2] at w3; rw[y3] at w4; rw[y1] at w2; rw[y4]
 exact⟨⟨_,w5,rfl⟩,h _ w5 w3 w4 ⟨_,w1,rfl,rfl⟩ ⟨_,w2,rfl,rfl⟩ fun c o u=>Pr _ (Pr _ (Pr _ (Pr _ (Pr _ u))))⟩
end
def Itu (K : Qp) (a b : Addr) : It :=
  ⟨fun i H => ∃ xs ys x y, SqT K H a xs ∧ SqL K H b ys ∧ xs[i]? = some x ∧ ys[i]? = some y,
   fun i H v H' => ∃ p x y, H p = none ∧ v = .ref p ∧ (∀ xs, SqT K H a xs → xs[i]? = some x) ∧ (∀ ys, SqL K H b ys → ys[i]? = some y) ∧ H' = upd H p (.tup [x, y]),
   fun i H => ∃ xs ys, SqT K H a xs ∧ SqL K H b ys ∧ (xs.length ≤ i ∨ ys.length ≤ i)⟩
def tnU (z p q i1 i2 a b:Addr) (i:Nat) (h:Q7):Prop:=Uh h z p q .none/\U3 h p (.ref i1) (.ref i2)/\(∃ u v,U3 h q u v)/\h.IsTupleIter i1 a i/\h.IsListIter i2 b i
theorem DQ {P:Qt} {w:QF} {K:Qp} {elts:List Expr} {x1} {pos:Vk} {z p q i1 i2 a b:Addr} (D:Zap z p q i1 i2 a b) :
  Turn P w K (.Tuple elts x1 pos) (Itu K a b) [z,p,q,i1,i2] z (tnU z p q i1 i2 a b) where
 mem:=by simp
 obj:=fun i h st c hc=>by
  obtain⟨hz,hp,⟨u,v,hq⟩,⟨o1,e1,_,d1⟩,⟨o2,e2,_,d2⟩⟩:=st
  simp only[Rb,RD,or_false] at hc
  rcases hc with rfl | rfl | rfl | rfl | rfl
  ·exact⟨_,hz,fun v z=>by cases z⟩
  ·exact⟨_,hp,fun v z=>by cases z⟩
  ·exact⟨_,hq,fun v z=>by cases z⟩
  ·exact⟨_,e1,fun v z=>by rw[d1] at z; cases z⟩
  ·exact⟨_,e2,fun v z=>by rw[d2] at z; cases z⟩
 keep:=fun i h h' st k=>by
  obtain⟨hz,hp,⟨u,v,hq⟩,⟨o1,e1,r1⟩,⟨o2,e2,r2⟩⟩:=st
  exact⟨k z (by simp) _ hz,k p (by simp) _ hp,⟨u,v,k q (by simp) _ hq⟩,⟨o1,k i1 (by simp) _ e1,r1⟩,⟨o2,k i2 (by simp) _ e2,r2⟩⟩
 item:=by
  intro X hP hw hK hc i pins s σ H E I hf st hg
  subst hP hw hK
  obtain⟨xs,ys,x,y,hx,hy,ex,ey⟩:=hg
  obtain⟨hz,hp,⟨u,v,hq⟩,j1,j2⟩:=st
  obtain⟨its,rv,tp,_⟩:=I.tuple hx
  obtain⟨its2,rv2,tp2,_⟩:=I.list hy
  obtain⟨xu,hxu,rx⟩:=rv.get ex
  obtain⟨yu,hyu,ry⟩:=rv2.get ey
  refine HS D hz hp hq j1 j2 (show s.heap.IsTuple a its.toArray from tp) (show s.heap.IsList b its2.toArray from tp2.isList) (x:=xu) (y:=yu) (by simpa using hxu) (by simpa using hyu) fun h' z' q' u1 u2 t' _ kp=>⟨_,rfl,?_⟩
  refine wpAny_letOwnedTupleGo_zip z' fun h2 z2 b2=>?_
  have lt:∀ {c o},s.heap.get? c=some o->c < s.heap.objs.size:=fun e=>Qa e
  have zne:s.heap.objs.size≠z:=RV (lt hz)
  have hfr:H s.heap.objs.size=none:=I.fresh
  have I1:Inv X pins σ (upd H s.heap.objs.size (.tup [x,y])) { s with heap:=s.heap.push { cls:=.type "tuple",data:=.seq #[xu,yu] } } :=
   I.laid (t':=s.toks) (fun _ _ e=>Pr _ e) (PK _) ⟨by show 2<=sizeLine; decide,[xu,yu],.cons rx (.cons ry .nil),⟨_,PB _ rfl,rfl,_,rfl⟩⟩
  have blt:∀ c∈[z,p,q,i1,i2],c < s.heap.objs.size:=fun c hc=>by
   obtain⟨_,e1,_⟩:=j1
   obtain⟨_,e2,_⟩:=j2
   simp only[Rb,RD,or_false] at hc
   rcases hc with rfl | rfl | rfl | rfl | rfl
   ·exact lt hz
   ·exact lt hp
   ·exact lt hq
   ·exact lt e1
   ·exact lt e2
  have ff:∀ c∈[z,p,q,i1,i2],uW X pins (upd H s.heap.objs.size (.tup [x,y])) c:=fun c hc=>by
   obtain⟨f0,fr⟩:=hf c hc
   exact⟨by rw[bx (Qq (blt c hc))]; exact f0,fr⟩
  have kk:∀ c o,c ∉ [z,q,i1,i2]->(s.heap.push { cls:=.type "tuple",data:=.seq #[xu,yu] }).get? c=some o->h2.get? c=some o:=fun c o hc e=>by
   have c1:c≠z:=fun h=>hc (by simp [h])
   refine (b2.2 c c1).trans ?_
   rcases Vw e with⟨ec,eo⟩ | e'
   ·subst ec
    subst eo
    exact t'
   ·exact kp c o c1 (fun h=>hc (by simp [h])) (fun h=>hc (by simp [h])) (fun h=>hc (by simp [h])) e'
  have I2:Inv X pins σ (upd H s.heap.objs.size (.tup [x,y])) { s with heap:=h2 } :=
   Inv.iG (s:={ s with heap:=s.heap.push { cls:=.type "tuple",data:=.seq #[xu,yu] } }) (h':=h2) (t':=s.toks) (ch:=[z,q,i1,i2]) I1 kk fun c hc=>ff c (by
    simp only[Rb] at hc ⊢
    rcases hc with h | h | h | h
    ·exact .inl h
    ·exact .inr (.inr (.inl h))
    ·exact .inr (.inr (.inr (.inl h)))
    ·exact .inr (.inr (.inr (.inr h))))
  refine⟨.ref s.heap.objs.size,_,I2,rfl,⟨_,x,y,hfr,rfl,fun zs hzs=>?_,fun zs hzs=>?_,rfl⟩,⟨z2,(b2.2 _ D.pz).trans (kp _ _ D.pz D.pq D.pa D.pb hp),⟨_,_,(b2.2 _ D.qz).trans q'⟩,cW u1 b2 D.az,cR u2 b2 D.bz⟩,fun c hc=>(ff c hc).1⟩
  ·rw[I.gG hzs hx]; exact ex
  ·rw[I.lX hzs hy]; exact ey
 done:=by
  intro X hP hw hK hc i pins s σ H E I hf st hg
  subst hP hw hK
  obtain⟨xs,ys,hx,hy,hend⟩:=hg
  obtain⟨hz,hp,⟨u,v,hq⟩,j1,j2⟩:=st
  obtain⟨its,rv,tp,_⟩:=I.tuple hx
  obtain⟨its2,rv2,tp2,_⟩:=I.list hy
  have l1:=rv.length
  have l2:=rv2.length
  refine LC (I.ok.hd hc) D hz hp hq j1 j2 (show s.heap.IsTuple a its.toArray from tp) (show s.heap.IsList b its2.toArray from tp2.isList) (hend.imp (fun h=>by simp; lia) fun h=>by simp; lia) fun h' kp=>⟨rfl,?_⟩
  exact I.iG (t':=s.toks) (ch:=[z,q,i1,i2]) (fun c o hc e=>kp c o (fun h=>hc (by simp [h])) (fun h=>hc (by simp [h])) (fun h=>hc (by simp [h])) (fun h=>hc (by simp [h])) e)
   fun c hc=>hf c (by simp only[Rb] at hc ⊢; rcases hc with h | h | h | h; exact .inl h; exact .inr (.inr (.inl h)); exact .inr (.inr (.inr (.inl h))); exact .inr (.inr (.inr (.inr h))))
 self:=fun _ _ _ _ _ st h=>Wj st.1 h
def Ov (K:Qp) (ta:TA):TI:=fun σ H R=>ta σ H fun vs H1=>∃ a b xs ys,vs=[.ref a,.ref b]/\SqT K H1 a xs/\SqL K H1 b ys/\R (Itu K a b) H1
theorem Gm {X:Cx} {elts:List Expr} {x1} {tpos:Vk} {a b:Expr} {ta:TA} {p pos:Vk} (hg:Gl X "zip") (hm:X.mg "zip" = none) (ha:PA X [a,b] ta) (hs:Qv [a,b] X.env=[(false,S6 a X.env),(false,S6 b X.env)]:=by rfl) (hs2:Qv [b] X.env=[(false,S6 b X.env)]:=by rfl) :
  PI X (.Tuple elts x1 tpos) (.Call (.Name "zip" p) [a,b] [] pos) (Ov X.K ta):=by
 intro pins s σ H R I h
 refine Call_ (fM I hg hm boot_zip (Q5 (thn (ha pos pins s σ H _ I h) fun us s1 ⟨vs,H1,I1,r1,q1⟩=>?_) (by rw[hs,hs2]) (by rw[hs2]; rfl)))
 obtain⟨c,d,xs,ys,e,hx,hy,q⟩:=q1
 subst e
 obtain⟨u1,u2,rfl,ru1,ru2⟩:=vals2 r1
 cases ru1
 cases ru2
 obtain⟨its,_,tp,_⟩:=I1.tuple hx
 obtain⟨its2,_,tp2,_⟩:=I1.list hy
 refine Io (show s1.heap.IsTuple c its.toArray from tp) (show s1.heap.IsList d its2.toArray from tp2.isList) fun h' z' p' q' j1 j2 kp=>?_
 have lc:c < s1.heap.objs.size:=by obtain⟨o,e,_⟩:=tp; exact Qa e
 have ld:d < s1.heap.objs.size:=by obtain⟨o,e,_⟩:=tp2.isList; exact Qa e
 have D:Zap (s1.heap.objs.size+4) (s1.heap.objs.size+2) (s1.heap.objs.size+3) s1.heap.objs.size (s1.heap.objs.size+1) c d:=Iv lc ld
 refine Wj z' ⟨_,_,_,_,H1,rfl,I1.kept (t':=s1.toks) kp,DQ D,⟨z',p',⟨_,_,q'⟩,j1,j2⟩,fun e he=>?_,q⟩
 have hle:s1.heap.objs.size<=e:=by
  simp only[Rb,RD,or_false] at he
  rcases he with rfl | rfl | rfl | rfl | rfl <;> lia
 exact I1.Ef hle (I1.hok.fresh hle)
theorem wU {K:Qp} {a b D:Addr} {xs ys:List V} {g:TG} {tt:TT} {te:TE} {H1:Hp} {Q:Hp->Prop} {σ0:St} (hlen:xs.length=ys.length) (Pv:Nat->List V->St->Hp->Prop) (h0:Pv 0 [] σ0 (upd H1 D (.lst [])))
  (hl:∀ i zs σ H,i<=xs.length->Pv i zs σ H->SqT K H a xs/\SqL K H b ys/\H D=some (.lst zs))
  (hs:∀ i zs x y p σ H,xs[i]? = some x->ys[i]? = some y->H p=none->Pv i zs σ H->g (.ref p) σ (upd H p (.tup [x,y])) fun σ3 H3=>tt σ3 H3 fun c H4=>if c=true then te σ3 H4 fun v H5=>H5 D=some (.lst zs)/\zs.length < sizeLine/\Pv (i+1) (zs++[v]) σ3 (upd H5 D (.lst (zs++[v]))) else Pv (i+1) zs σ3 H4)
  (hd:∀ zs σ H,Pv xs.length zs σ H->Q H):f9 D σ0 (Itu K a b) g tt te H1 Q:=by
 refine⟨fun i m zs σ H=>m=xs.length - i/\i<=xs.length/\Pv i zs σ H,⟨xs.length,by simp,Qw _,h0⟩,?_⟩
 rintro i m zs σ H ⟨rfl,hi,p⟩
 obtain⟨q1,q2,qD⟩:=hl i zs σ H hi p
 refine⟨qD,?_⟩
 by_cases hlt:i < xs.length
 ·have hlt2:i < ys.length:=by lia
  refine .inr ⟨⟨xs,ys,xs[i],ys[i],q1,q2,by simp [hlt],by simp [hlt2]⟩,Pv (i+1),fun zs' σ' H' p'=>⟨xs.length - (i+1),by lia,rfl,hlt,p'⟩,fun v H' y=>?_⟩
  obtain⟨pp,x,y,hp,rfl,hx,hy,rfl⟩:=y
  exact hs i zs x y pp σ _ (hx xs q1) (hy ys q2) hp p
 ·have e:i=xs.length:=by lia
  subst e
  exact .inl ⟨⟨xs,ys,q1,q2,.inl (PK _)⟩,hd zs σ H p⟩
end L2
namespace L2
open PySem PySem.Spec PyProof.Rows
def Itn (K : Qp) (a : Addr) : It :=
  ⟨fun i H => ∃ xs x, SqL K H a xs ∧ xs[i]? = some x,
   fun i H v H' => ∃ p x, H p = none ∧ v = .ref p ∧ (∀ xs, SqL K H a xs → xs[i]? = some x) ∧ H' = upd H p (.tup [.int (i : Int), x]),
   fun i H => ∃ xs, SqL K H a xs ∧ xs.length ≤ i⟩
def tnN (e it a:Addr) (i:Nat) (h:Q7):Prop:=(∃ old,IsEnum h e it (i:Int) old)/\h.IsListIter it a i
theorem Br {P:Qt} {w:QF} {K:Qp} {elts:List Expr} {x1} {pos:Vk} {e it a:Addr} (hne:e≠it) :
  Turn P w K (.Tuple elts x1 pos) (Itn K a) [e,it] e (tnN e it a) where
 mem:=by simp
 obj:=fun i h st c hc=>by
  obtain⟨⟨old,he⟩,⟨o,ho,_,d⟩⟩:=st
  simp only[Rb,RD,or_false] at hc
  rcases hc with rfl | rfl
  ·exact⟨_,he,fun v z=>by cases z⟩
  ·exact⟨_,ho,fun v z=>by rw[d] at z; cases z⟩
 keep:=fun i h h' st k=>by
  obtain⟨⟨old,he⟩,j⟩:=st
  exact⟨⟨old,k e (by simp) _ he⟩,j.at fun o q=>k it (by simp) o q⟩
 item:=by
  intro X hP hw hK hc i pins s σ H E I hf st hg
  subst hP hw hK
  obtain⟨xs,x,hx,ex⟩:=hg
  obtain⟨⟨old,he⟩,j⟩:=st
  obtain⟨its,rv,pl,_⟩:=I.list hx
  obtain⟨xu,hxu,rx⟩:=rv.get ex
  refine wpAny_pyNext_enum_item he j pl.isList (x:=xu) (by simpa using hxu) hne fun h' e1 j1 t1 z1 kp=>⟨_,rfl,?_⟩
  refine wpAny_letOwnedTupleGo_enum e1 fun h2 e2 b2=>?_
  have el:e < s.heap.objs.size:=Qa he
  have il:it < s.heap.objs.size:=by obtain⟨o,q,_⟩:=j; exact Qa q
  have I1:Inv X pins σ (upd H s.heap.objs.size (.tup [.int (i:Int),x])) { s with heap:=s.heap.push { cls:=.type "tuple",data:=.seq #[.int i s.toks,xu] },toks:=s.toks+1 } :=
   I.laid (t':=s.toks+1) (fun _ _ q=>Pr _ q) (PK _) ⟨by show 2<=sizeLine; decide,[.int i s.toks,xu],.cons ⟨_,rfl⟩ (.cons rx .nil),⟨_,PB _ rfl,rfl,_,rfl⟩⟩
  have ff:∀ c∈[e,it],uW X pins (upd H s.heap.objs.size (.tup [.int (i:Int),x])) c:=fun c hc=>by
   obtain⟨f0,fr⟩:=hf c hc
   have cl:c < s.heap.objs.size:=by
    simp only[Rb,RD,or_false] at hc
    rcases hc with rfl | rfl
    ·exact el
    ·exact il
   exact⟨by rw[bx (Qq cl)]; exact f0,fr⟩
  have kk:∀ c o,c ∉ [e,it]->(s.heap.push { cls:=.type "tuple",data:=.seq #[.int i s.toks,xu] }).get? c=some o->h2.get? c=some o:=fun c o hc q=>by
   have c1:c≠e:=fun h=>hc (by simp [h])
   have c2:c≠it:=fun h=>hc (by simp [h])
   refine (b2.2 c c1).trans ?_
   rcases Vw q with⟨ec,eo⟩ | q'
   ·subst ec
    subst eo
    exact t1
   ·exact kp c o c1 c2 q'
  have I2:Inv X pins σ (upd H s.heap.objs.size (.tup [.int (i:Int),x])) { s with heap:=h2,toks:=s.toks+1 } :=
   Inv.iG (s:={ s with heap:=s.heap.push { cls:=.type "tuple",data:=.seq #[.int i s.toks,xu] },toks:=s.toks+1 }) (h':=h2) (t':=s.toks+1) (ch:=[e,it]) I1 kk ff
  refine⟨.ref s.heap.objs.size,_,I2,rfl,⟨_,x,I.fresh,rfl,fun zs hzs=>?_,rfl⟩,⟨⟨_,e2⟩,j1.at fun o q=>(b2.2 it (Tu hne)).trans q⟩,fun c hc=>(ff c hc).1⟩
  rw[I.lX hzs hx]; exact ex
 done:=by
  intro X hP hw hK hc i pins s σ H E I hf st hg
  subst hP hw hK
  obtain⟨xs,hx,hend⟩:=hg
  obtain⟨⟨old,he⟩,j⟩:=st
  obtain⟨its,rv,pl,_⟩:=I.list hx
  have l1:=rv.length
  refine wpAny_pyNext_enum_end (I.ok.hd hc) he j pl.isList (by simp; lia) fun h' eb=>⟨rfl,?_⟩
  exact I.iG (t':=s.toks) (ch:=[e,it]) (fun c o hc q=>eb c o (fun h=>hc (by simp [h])) q) hf
 self:=fun _ _ _ _ _ st h=>by
  obtain⟨⟨old,he⟩,_⟩:=st
  exact Wa he h
def Ng (K:Qp) (ta:TA):TI:=fun σ H R=>ta σ H fun vs H1=>∃ a xs,vs=[.ref a]/\H1 a=some (.lst xs)/\R (Itn K a) H1
theorem Di {X:Cx} {elts:List Expr} {x1} {tpos:Vk} {a:Expr} {ta:TA} {p pos:Vk} (hg:Gl X "enumerate") (hm:X.mg "enumerate" = none) (ha:PA X [a] ta) (hs:Qv [a] X.env=[(false,S6 a X.env)]:=by rfl) :
  PI X (.Tuple elts x1 tpos) (.Call (.Name "enumerate" p) [a] [] pos) (Ng X.K ta):=by
 intro pins s σ H R I h
 refine Call_ (fM I hg hm boot_enumerate (Q5 (thn (ha pos pins s σ H _ I h) fun us s1 ⟨vs,H1,I1,r1,q1⟩=>?_) hs rfl))
 obtain⟨c,xs,e,hx,q⟩:=q1
 subst e
 obtain⟨u1,rfl,ru1⟩:=vals1 r1
 cases ru1
 obtain⟨z,its,n,rv,ho⟩:=I1.hok c _ hx
 refine call_enumerate_1 ho fun h' e1 j1 _ kp=>?_
 have en:s1.heap.objs.size+1≠s1.heap.objs.size:=RV (S8 _)
 refine Wa e1 ⟨_,_,_,_,H1,rfl,I1.kept (t':=s1.toks) kp,Br (a:=c) en,⟨⟨_,e1⟩,j1⟩,fun b hb=>?_,q⟩
 have hle:s1.heap.objs.size<=b:=by
  simp only[Rb,RD,or_false] at hb
  rcases hb with rfl | rfl
  ·exact Ti _
  ·exact PK _
 exact I1.Ef hle (I1.hok.fresh hle)
theorem Fe {K:Qp} {a:Addr} {xs:List V} {g:TG} {tb:TS} {D:Ends} {σ:St} {H:Hp} (Pv:Nat->St->Hp->Prop) (h0:Pv 0 σ H) (hl:∀ i σ H,i<=xs.length->Pv i σ H->SqL K H a xs)
  (hs:∀ i x p σ H,xs[i]? = some x->H p=none->Pv i σ H->g (.ref p) σ (upd H p (.tup [.int (i:Int),x])) fun σ2 H2=>tb { D with nx:=Pv (i+1),ct:=Pv (i+1),bk:=D.nx } σ2 H2) (hd:∀ σ H,Pv xs.length σ H->D.nx σ H) :
  ∃ W:Nat->Nat->St->Hp->Prop,(∃ m,W 0 m σ H)/\∀ i m σ H,W i m σ H →
   ((Itn K a).stop i H/\D.nx σ H)∨((Itn K a).go i H/\∃ N:St->Hp->Prop,(∀ σ' H',N σ' H'->∃ m',m' < m/\W (i+1) m' σ' H')/\∀ x H',(Itn K a).yld i H x H'->g x σ H' fun σ2 H2=>tb { D with nx:=N,ct:=N,bk:=D.nx } σ2 H2):=by
 refine⟨fun i m σ H=>m=xs.length - i/\i<=xs.length/\Pv i σ H,⟨xs.length,by simp,Qw _,h0⟩,?_⟩
 rintro i m σ H ⟨rfl,hi,p⟩
 have q1:=hl i σ H hi p
 by_cases hlt:i < xs.length
 ·refine .inr ⟨⟨xs,xs[i],q1,by simp [hlt]⟩,Pv (i+1),fun σ' H' p'=>⟨xs.length - (i+1),by lia,rfl,hlt,p'⟩,fun v H' y=>?_⟩
  obtain⟨pp,x,hp,rfl,hx,rfl⟩:=y
  exact hs i x pp σ _ (hx xs q1) hp p
 ·have e:i=xs.length:=by lia
  subst e
  exact .inl ⟨⟨xs,q1,PK _⟩,hd σ H p⟩
end L2
namespace L2
open PySem PySem.Spec PyProof.Rows
section
variable {X:Cx} {k:Nat}
inductive G6 (K:Qp) (x:V) (y:V) (H:Hp) (Q:VK):Prop where
 | mk (a b:Addr) (ns ms:List Int) (z0:x = .ref a) (z1:y = .ref b) (z2:SqT K H a (ns.map V.int)) (z3:SqT K H b (ms.map V.int)) (z4:Q (.bl (!decide (ns=ms))) H):G6 K x y H Q
def Jl (K:Qp):R2:=fun x y H Q=>G6 K x y H Q
theorem Ar (hu:X.A.units < cLine):OpR X (S7 .NotEq) (Jl X.K):=by
 intro pins s σ H x y v u Q I rx ry h
 obtain⟨a,b,ns,ms,rfl,rfl,ha,hb,q⟩:=h
 cases rx
 cases ry
 obtain⟨its,r1,p1,_⟩:=I.tuple ha
 obtain⟨its2,r2,p2,_⟩:=I.tuple hb
 have i1:Ra its ns:=intsAre_of r1
 have i2:Ra its2 ms:=intsAre_of r2
 have l1:=i1.length
 have l2:=i2.length
 have r:=SeqAt.RcNeAt.tuples (e:=fun j=>ns.getD j 0 == ms.getD j 0) (show s.heap.IsTuple a its.toArray from p1) (show s.heap.IsTuple b its2.toArray from p2) hu fun j h1 h2=>by
  obtain⟨t,e1⟩:=ints_get i1 (j:=j) (by simpa using h1)
  obtain⟨t',e2⟩:=ints_get i2 (j:=j) (by simpa using h2)
  rw[Tj,Tj,e1,e2]
  exact W7 _ _ _ _
 have e:=nQ ns ms
 have s1:its.toArray.size=ns.length:=by rw[P0]; exact l1
 have s2:its2.toArray.size=ms.length:=by rw[P0]; exact l2
 rw[s1,s2,e] at r
 exact r X.prog X.w X.xe _ ⟨.bl _,H,I,rfl,q⟩
end
end L2
namespace L2
open PySem PySem.Spec PyProof.Rows
theorem qi {X:Cx} {tg l:Expr} {tl:TE} (K:Qp) (hK:X.K=K) (hl:PE X l tl):PI X tg l (K5 K tl):=by
 subst hK
 exact dY hl
theorem Ib {X:Cx} {tg l:Expr} {tl:TE} (K:Qp) (hK:X.K=K) (hl:PE X l tl):PI X tg l (Oj K tl):=by
 subst hK
 exact iM hl
end L2
namespace L2
open PySem PySem.Spec PyProof.Rows
section
variable {prog:Qt} {w:QF} {A:QG} {E:Value->Pu->Prop} {s:Pu}
end
end L2
namespace L2
open PySem PySem.Spec PyProof.Rows
theorem Draws.HN {prog:Qt} {w:QF} {A:QG} (hh:A.handled=none) (it l:Addr) (hne:l≠it) (items:Array Value) :
  Draws prog w A it [it,l] items.size (fun i v=>items[i]? = some v) (fun i h=>h.IsTupleIter it l i/\h.IsTuple l items) where
 live:=fun _ _ st=>let ⟨o,ho,_⟩:=st.1; ⟨o,ho⟩
 frame:=fun _ _ _ st hk=>by
  obtain⟨⟨o1,q1,r1⟩,⟨o2,q2,r2⟩⟩:=st
  exact⟨⟨o1,hk it (by simp) o1 q1,r1⟩,⟨o2,hk l (by simp) o2 q2,r2⟩⟩
 item:=fun i s Q E hi st hQ=>by
  refine nO st.1 st.2 (x:=items[i]) (by simp [hi]) fun h' j' sb=>?_
  exact hQ _ h' s.toks (by simp [hi]) ⟨j',gY st.2 sb hne⟩ sb
 done:=fun s Q E st hE=>Gg hh st.1 st.2 (by simp) hE
theorem zK (l:Addr) (xs:Array Value) :
  Meets (Sd.«enumerate.__new__» ⟨[.type "enumerate",.ref l],[]⟩) (fun _ R s=>s.heap.IsTuple l xs/\R (.ok (.ret (.ref (zA s.heap l).objs.size))) { s with heap:=(zA s.heap l).push { cls:=.type "enumerate",data:=.fields #[.none,.bool false,.ref s.heap.objs.size,RB 0,.none,.none] } }) :=
 .of_wp fun prog w A R s h=>by
  obtain⟨hp,g,d,tk,os⟩:=s; obtain⟨hl,h⟩:=h
  have hsub:=sub_enumerate
  have hL:Xo (Wb ⟨hp,g,d,tk,os⟩) l xs:=hl
  wp_walk
  refine wpAny_stack_any fun st=>Py ?_
  split
  ·rename_i c _ _ _ _ _
   cases (c == Ub "enumerate") <;> (wp_walk using T9 hL; exact⟨_,rfl,h⟩)
  ·wp_walk using T9 hL
   exact⟨_,rfl,h⟩
theorem yS {prog:Qt} {w:QF} {A:QG} {E:Value->Pu->Prop} {s:Pu} {l:Addr} {xs:Array Value} {Q:Value->Pu->Prop} (hl:s.heap.IsTuple l xs)
  (h:∀ h',IsEnum h' (s.heap.objs.size+1) s.heap.objs.size 0 .none->h'.IsTupleIter s.heap.objs.size l 0->(∀ b o,s.heap.get? b=some o->h'.get? b=some o)->Q (.ref (s.heap.objs.size+1)) { s with heap:=h' }) :
  PX (Qo prog w) A (call (.type "enumerate") [.ref l]) Q E s:=by
 refine Xh F.called_enumerate (by decide) (F.typeCall_enumerate_1 _) (F.newCall_enumerate_1 _) (fun obj=>F.args_object_init_2 obj _) F.entry_enumerate_new (zK l xs) ⟨hl,?_⟩
 have hz:(zA s.heap l).objs.size=s.heap.objs.size+1:=Q3 ..
 show _/\_
 have he:((zA s.heap l).push { cls:=.type "enumerate",data:=.fields #[.none,.bool false,.ref s.heap.objs.size,RB 0,.none,.none] }).get? (zA s.heap l).objs.size=some _:=PB _ rfl
 rw[hz] at he ⊢
 exact⟨⟨_,he,rfl⟩,h _ he ⟨_,Pr _ (PB _ rfl),rfl,rfl⟩ fun b o x=>Pr _ (Pr _ x)⟩
def Itm (K : Qp) (a : Addr) : It :=
  ⟨fun i H => ∃ xs x, SqT K H a xs ∧ xs[i]? = some x,
   fun i H v H' => ∃ p x, H p = none ∧ v = .ref p ∧ (∀ xs, SqT K H a xs → xs[i]? = some x) ∧ H' = upd H p (.tup [.int (i : Int), x]),
   fun i H => ∃ xs, SqT K H a xs ∧ xs.length = i⟩
def tnM (e it a:Addr) (i:Nat) (h:Q7):Prop:=(∃ old,IsEnum h e it (i:Int) old)/\h.IsTupleIter it a i
theorem xY {P:Qt} {w:QF} {K:Qp} {elts:List Expr} {x1} {pos:Vk} {e it a:Addr} (hne:e≠it) :
  Turn P w K (.Tuple elts x1 pos) (Itm K a) [e,it] e (tnM e it a) where
 mem:=by simp
 obj:=fun i h st c hc=>by
  obtain⟨⟨old,he⟩,⟨o,ho,_,d⟩⟩:=st
  simp only[Rb,RD,or_false] at hc
  rcases hc with rfl | rfl
  ·exact⟨_,he,fun v z=>by cases z⟩
  ·exact⟨_,ho,fun v z=>by rw[d] at z; cases z⟩
 keep:=fun i h h' st k=>by
  obtain⟨⟨old,he⟩,j⟩:=st
  exact⟨⟨old,k e (by simp) _ he⟩,j.at fun o q=>k it (by simp) o q⟩
 item:=by
  intro X hP hw hK hc i pins s σ H E I hf st hg
  subst hP hw hK
  obtain⟨xs,x,hx,ex⟩:=hg
  obtain⟨⟨old,he⟩,j⟩:=st
  obtain⟨its,rv,pl,_⟩:=I.tuple hx
  obtain⟨xu,hxu,rx⟩:=rv.get ex
  have tl:a≠it:=fun z=>by
   obtain⟨o1,q1,c1,_⟩:=j
   obtain⟨o2,q2,c2,_⟩:=(show s.heap.IsTuple a its.toArray from pl)
   rw[z,q1] at q2
   cases q2
   rw[c1] at c2
   injection c2 with z2
   exact absurd z2 (by decide)
  have te:a≠e:=fun z=>by
   obtain⟨o2,q2,c2,_⟩:=(show s.heap.IsTuple a its.toArray from pl)
   rw[z,he] at q2
   cases q2
   injection c2 with z2
   exact absurd z2 (by decide)
  have hin:i < its.toArray.size:=by
   have:=(List.getElem?_eq_some_iff.mp hxu).1
   simpa using this
  refine wpAny_pyNext_enum_itemD (Draws.HN (A:=X.A.in1) (I.ok.hd hc) it a tl its.toArray) he ⟨j,show s.heap.IsTuple a its.toArray from pl⟩ hin hne (by simp [hne,te.symm]) fun x' h' tk hP e1 st1 t1 z1 kp=>⟨_,rfl,?_⟩
  obtain⟨j1,_⟩:=st1
  have ex':x'=xu:=by
   have hP':its.toArray[i]? = some x':=hP
   rw[show its.toArray[i]? = some xu by simpa using hxu] at hP'
   exact (QC hP').symm
  subst x'
  refine wpAny_letOwnedTupleGo_enum e1 fun h2 e2 b2=>?_
  have el:e < s.heap.objs.size:=Qa he
  have il:it < s.heap.objs.size:=by obtain⟨o,q,_⟩:=j; exact Qa q
  have I1:Inv X pins σ (upd H s.heap.objs.size (.tup [.int (i:Int),x])) { s with heap:=s.heap.push { cls:=.type "tuple",data:=.seq #[.int i tk,xu] },toks:=tk+1 } :=
   I.laid (t':=tk+1) (fun _ _ q=>Pr _ q) (PK _) ⟨by show 2<=sizeLine; decide,[.int i tk,xu],.cons ⟨_,rfl⟩ (.cons rx .nil),⟨_,PB _ rfl,rfl,_,rfl⟩⟩
  have ff:∀ c∈[e,it],uW X pins (upd H s.heap.objs.size (.tup [.int (i:Int),x])) c:=fun c hc=>by
   obtain⟨f0,fr⟩:=hf c hc
   have cl:c < s.heap.objs.size:=by
    simp only[Rb,RD,or_false] at hc
    rcases hc with rfl | rfl
    ·exact el
    ·exact il
   exact⟨by rw[bx (Qq cl)]; exact f0,fr⟩
  have kk:∀ c o,c ∉ [e,it]->(s.heap.push { cls:=.type "tuple",data:=.seq #[.int i tk,xu] }).get? c=some o->h2.get? c=some o:=fun c o hc q=>by
   have c1:c≠e:=fun h=>hc (by simp [h])
   have c2:c≠it:=fun h=>hc (by simp [h])
   refine (b2.2 c c1).trans ?_
   rcases Vw q with⟨ec,eo⟩ | q'
   ·subst ec
    subst eo
    exact t1
   ·exact kp c o c1 c2 q'
  have I2:Inv X pins σ (upd H s.heap.objs.size (.tup [.int (i:Int),x])) { s with heap:=h2,toks:=tk+1 } :=
   Inv.iG (s:={ s with heap:=s.heap.push { cls:=.type "tuple",data:=.seq #[.int i tk,xu] },toks:=tk+1 }) (h':=h2) (t':=tk+1) (ch:=[e,it]) I1 kk ff
  refine⟨.ref s.heap.objs.size,_,I2,rfl,⟨_,x,I.fresh,rfl,fun zs hzs=>?_,rfl⟩,⟨⟨_,e2⟩,j1.at fun o q=>(b2.2 it (Tu hne)).trans q⟩,fun c hc=>(ff c hc).1⟩
  rw[I.gG hzs hx]; exact ex
 done:=by
  intro X hP hw hK hc i pins s σ H E I hf st hg
  subst hP hw hK
  obtain⟨xs,hx,hend⟩:=hg
  obtain⟨⟨old,he⟩,j⟩:=st
  obtain⟨its,rv,pl,_⟩:=I.tuple hx
  have l1:=rv.length
  have tl:a≠it:=fun z=>by
   obtain⟨o1,q1,c1,_⟩:=j
   obtain⟨o2,q2,c2,_⟩:=(show s.heap.IsTuple a its.toArray from pl)
   rw[z,q1] at q2
   cases q2
   rw[c1] at c2
   injection c2 with z2
   exact absurd z2 (by decide)
  have hin:i=its.toArray.size:=by
   rw[P0]
   lia
  refine wpAny_pyNext_enum_endD (Draws.HN (A:=X.A.in1) (I.ok.hd hc) it a tl its.toArray) he ⟨by rw[← hin]; exact j,show s.heap.IsTuple a its.toArray from pl⟩ fun h' eb=>⟨rfl,?_⟩
  exact I.iG (t':=s.toks) (ch:=[e,it]) (fun c o hc q=>eb c o (fun h=>hc (by simp [h])) q) hf
 self:=fun _ _ _ _ _ st h=>by
  obtain⟨⟨old,he⟩,_⟩:=st
  exact Wa he h
def Km (K:Qp) (ta:TA):TI:=fun σ H R=>ta σ H fun vs H1=>∃ a xs,vs=[.ref a]/\SqT K H1 a xs/\R (Itm K a) H1
theorem qL {X:Cx} {elts:List Expr} {x1} {tpos:Vk} {a:Expr} {ta:TA} {p pos:Vk} (hg:Gl X "enumerate") (hm:X.mg "enumerate" = none) (ha:PA X [a] ta) (hs:Qv [a] X.env=[(false,S6 a X.env)]:=by rfl) :
  PI X (.Tuple elts x1 tpos) (.Call (.Name "enumerate" p) [a] [] pos) (Km X.K ta):=by
 intro pins s σ H R I h
 refine Call_ (fM I hg hm boot_enumerate (Q5 (thn (ha pos pins s σ H _ I h) fun us s1 ⟨vs,H1,I1,r1,q1⟩=>?_) hs rfl))
 obtain⟨c,xs,e,hx,q⟩:=q1
 subst e
 obtain⟨u1,rfl,ru1⟩:=vals1 r1
 cases ru1
 obtain⟨its,rv,tp,_⟩:=I1.tuple hx
 refine yS (show s1.heap.IsTuple c its.toArray from tp) fun h' e1 j1 kp=>?_
 have en:s1.heap.objs.size+1≠s1.heap.objs.size:=RV (S8 _)
 refine Wa e1 ⟨_,_,_,_,H1,rfl,I1.kept (t':=s1.toks) kp,xY (a:=c) en,⟨⟨_,e1⟩,j1⟩,fun b hb=>?_,q⟩
 have hle:s1.heap.objs.size<=b:=by
  simp only[Rb,RD,or_false] at hb
  rcases hb with rfl | rfl
  ·exact Ti _
  ·exact PK _
 exact I1.Ef hle (I1.hok.fresh hle)
theorem BX {K:Qp} {a D:Addr} {xs:List V} {g:TG} {tt:TT} {te:TE} {H1:Hp} {Q:Hp->Prop} {σ0:St} (Pv:Nat->List V->St->Hp->Prop) (h0:Pv 0 [] σ0 (upd H1 D (.lst [])))
  (hl:∀ i zs σ H,i<=xs.length->Pv i zs σ H->SqL K H a xs/\H D=some (.lst zs))
  (hs:∀ i zs x p σ H,xs[i]? = some x->H p=none->Pv i zs σ H->g (.ref p) σ (upd H p (.tup [.int (i:Int),x])) fun σ3 H3=>tt σ3 H3 fun c H4=>if c=true then te σ3 H4 fun v H5=>H5 D=some (.lst zs)/\zs.length < sizeLine/\Pv (i+1) (zs++[v]) σ3 (upd H5 D (.lst (zs++[v]))) else Pv (i+1) zs σ3 H4)
  (hd:∀ zs σ H,Pv xs.length zs σ H->Q H):f9 D σ0 (Itn K a) g tt te H1 Q:=by
 refine⟨fun i m zs σ H=>m=xs.length - i/\i<=xs.length/\Pv i zs σ H,⟨xs.length,by simp,Qw _,h0⟩,?_⟩
 rintro i m zs σ H ⟨rfl,hi,p⟩
 obtain⟨q1,qD⟩:=hl i zs σ H hi p
 refine⟨qD,?_⟩
 by_cases hlt:i < xs.length
 ·refine .inr ⟨⟨xs,xs[i],q1,by simp [hlt]⟩,Pv (i+1),fun zs' σ' H' p'=>⟨xs.length - (i+1),by lia,rfl,hlt,p'⟩,fun v H' y=>?_⟩
  obtain⟨pp,x,hp,rfl,hx,rfl⟩:=y
  exact hs i zs x pp σ _ (hx xs q1) hp p
 ·have e:i=xs.length:=by lia
  subst e
  exact .inl ⟨⟨xs,q1,PK _⟩,hd zs σ H p⟩
theorem jZ {K:Qp} {a D:Addr} {xs:List V} {g:TG} {tt:TT} {te:TE} {H1:Hp} {Q:Hp->Prop} {σ0:St} (Pv:Nat->List V->St->Hp->Prop) (h0:Pv 0 [] σ0 (upd H1 D (.lst [])))
  (hl:∀ i zs σ H,i<=xs.length->Pv i zs σ H->SqT K H a xs/\H D=some (.lst zs))
  (hs:∀ i zs x p σ H,xs[i]? = some x->H p=none->Pv i zs σ H->g (.ref p) σ (upd H p (.tup [.int (i:Int),x])) fun σ3 H3=>tt σ3 H3 fun c H4=>if c=true then te σ3 H4 fun v H5=>H5 D=some (.lst zs)/\zs.length < sizeLine/\Pv (i+1) (zs++[v]) σ3 (upd H5 D (.lst (zs++[v]))) else Pv (i+1) zs σ3 H4)
  (hd:∀ zs σ H,Pv xs.length zs σ H->Q H):f9 D σ0 (Itm K a) g tt te H1 Q:=by
 refine⟨fun i m zs σ H=>m=xs.length - i/\i<=xs.length/\Pv i zs σ H,⟨xs.length,by simp,Qw _,h0⟩,?_⟩
 rintro i m zs σ H ⟨rfl,hi,p⟩
 obtain⟨q1,qD⟩:=hl i zs σ H hi p
 refine⟨qD,?_⟩
 by_cases hlt:i < xs.length
 ·refine .inr ⟨⟨xs,xs[i],q1,by simp [hlt]⟩,Pv (i+1),fun zs' σ' H' p'=>⟨xs.length - (i+1),by lia,rfl,hlt,p'⟩,fun v H' y=>?_⟩
  obtain⟨pp,x,hp,rfl,hx,rfl⟩:=y
  exact hs i zs x pp σ _ (hx xs q1) hp p
 ·have e:i=xs.length:=by lia
  subst e
  exact .inl ⟨⟨xs,q1,rfl⟩,hd zs σ H p⟩
end L2
namespace L2
open PySem PySem.Spec PyProof.Rows
section
variable {X:Cx}
inductive zL (x:V) (vs:List V) (H:Hp) (Q:VK):Prop where
 | mk (l:Addr) (ns:List Int) (k:Int) (j:Nat) (z0:x = .ref l) (z1:vs=[.int k]) (z2:H l=some (.lst (ns.map V.int))) (z3:ns[j]? = some k) (z4:(∀ i < j,ns[i]?≠some k)) (z5:Q (.int (j:Int)) H):zL  x vs H Q
def Gy:V->List V->Hp->VK->Prop:=fun x vs H Q=>zL  x vs H Q
theorem Ik {ns:List Int} {us:List Value} (r:Vals (ns.map V.int) us) {i:Nat} {u:Value} (h:us[i]? = some u):∃ n t,ns[i]? = some n/\u = .int n t:=by
 have hl:=r.length
 rw[Pq] at hl
 have hi:i < us.length:=(List.getElem?_eq_some_iff.mp h).1
 have hn:ns[i]? = some ns[i]:=Px (by lia)
 obtain⟨w,hw,rw'⟩:=r.get (i:=i) (x:=.int ns[i]) (by rw[Qj,hn]; rfl)
 rw[h] at hw
 cases hw
 obtain⟨t,rfl⟩:=rw'
 exact⟨_,t,hn,rfl⟩
theorem xP:MtM X "list.index" Gy:=by
 intro pins s σ H x vs v us Q I rx rv h
 obtain⟨l,ns,k,j,rfl,rfl,hH,hj,hno,q⟩:=h
 cases rx
 obtain⟨u1,rfl,r1⟩:=rv.one
 obtain⟨t,rfl⟩:=r1
 obtain⟨z,its,n,r,hl,e⟩:=I.Jj hH
 have hjn:j < ns.length:=(List.getElem?_eq_some_iff.mp hj).1
 rw[Pq] at hl
 rw[Us,Pq] at z
 have at_:∀ (i:Nat) (hi:i < its.length),∃ t,its[i] = .int (ns.getD i 0) t:=fun i hi=>by
  obtain⟨m,t,h1,h2⟩:=Ik r (Px hi)
  exact⟨t,by rw[h2,Pz,h1]; rfl⟩
 refine Ua F.slot_list_index ⟨_,e,rfl⟩ F.entry_list_index (F.args_list_index_2 _ _)
  (MeetsSeq.list_index l its.toArray n (.int k t) (isInt k) (fun y hy=>?_) j (by rw[P0]; lia) (by lia) ?_ (fun i hi hlt=>?_)) ⟨e,⟨.int (j:Int),H,I.kept (t':=s.toks+1) (fun _ _ q=>q),⟨_,rfl⟩,q⟩⟩
 ·have hy':y∈its:=by simpa using hy
  obtain⟨i,hi,rfl⟩:=RP hy'
  obtain⟨t',et⟩:=at_ i hi
  rw[et]
  exact MeetsSeq.EqGives.int _ k _ t
 ·obtain⟨t',et⟩:=at_ j (by lia)
  rw[Tj,et,Pz,hj]
  show isInt k (.int k t')=true
  simp [isInt]
 ·rw[P0] at hi
  obtain⟨t',et⟩:=at_ i hi
  rw[Tj,et]
  have hn:ns[i]? = some ns[i]:=Px (by lia)
  have:=hno i hlt
  rw[Pz,hn]
  rw[hn] at this
  show isInt k (.int ns[i] t')=false
  simp [isInt]
  exact fun z=>this (by rw[z])
end
end L2
namespace L2
open PySem PySem.Spec PyProof.Rows
end L2
namespace L2
open PySem PySem.Spec PyProof.Rows
section
variable {X:Cx}
end
end L2
namespace L2
open PySem PySem.Spec PyProof.Rows
section
variable {prog:Qt} {w:QF} {A:QG} {R:W8->Pu->Prop} {s:Pu} {elt t0 i0 t1 i1:Expr} {scope:Ve} {pos:Vk} {it acc:Value} {env:Env}
end
section
variable {X:Cx} {elt t0 i0 t1 i1:Expr} {scope:Ve} {pos:Vk} {L F:List Rr} {cap:List Nat} {wi wi1:TI} {g g1:TG} {te:TE}
end
end L2
namespace L2
open PySem PySem.Spec PyProof.Rows
def xZ (ta:TA):TE:=fun σ H Q=>ta σ H fun vs H1=>∃ n:Nat,vs=[.int (n:Int)]/\n<=1000/\∀ l,H1 l=none->Q (.ref l) (upd H1 l (.lst (((PL n).map fun i:Nat=>(i:Int)).map V.int)))
theorem ym {n:Nat} {acc:Array Value} (h:ItemsOf (fun i v=>∃ t,v = .int (0+(i:Int) * 1) t) acc n):Vals (((PL n).map fun i:Nat=>(i:Int)).map V.int) acc.toList:=by
 have key:∀ (m:Nat) (us:List Value),us.length=m->(∀ (j:Nat) (v:Value),us[j]? = some v->∃ t,v = .int (j:Int) t)->Vals (((PL m).map fun i:Nat=>(i:Int)).map V.int) us:=by
  intro m
  induction m with
  | zero =>
   intro us hl _
   rw[List.length_eq_zero_iff.mp hl]
   exact .nil
  | succ m ih =>
   intro us hl hj
   rw[Sw,PJ,PJ]
   have hm:m < us.length:=by lia
   have e:us=us.take m++[us[m]]:=by
    rw[List.take_append_getElem hm,List.take_of_length_le (by lia)]
   rw[e]
   have h1:=ih (us.take m) (by rw[Qh]; lia) fun j v hv=>by
    rw[List.getElem?_take] at hv
    split at hv
    ·exact hj j v hv
    ·cases hv
   obtain⟨t,ht⟩:=hj m us[m] (Px hm)
   exact h1.append (.cons ⟨t,ht⟩ .nil)
 refine key n acc.toList (by rw[Qs]; exact h.1) fun j v hv=>?_
 obtain⟨t,ht⟩:=h.2 j v (by rw[← QR]; exact hv)
 exact⟨t,by rw[ht]; congr 1; lia⟩
theorem tE {X:Cx} {e:Expr} {te:TA} {p1 p2 q1 q2:Vk} (hc:X.calm=true) (hg1:Gl X "list") (hm1:X.mg "list" = none) (hg2:Gl X "range") (hm2:X.mg "range" = none) (ha:PA X [e] te)
  (hb1:QZ "list" = some (.type "list"):=by decide+kernel) (hb2:QZ "range" = some (.type "range"):=by decide+kernel)
  (he1:Qv [.Call (.Name "range" p2) [e] [] q2] X.env=(false,S6 (.Call (.Name "range" p2) [e] [] q2) X.env)::Qv [] X.env:=by rfl) (hp1:(Ul q1 (Qv [] X.env)).any (·.1)=false:=by rfl)
  (he2:Qv [e] X.env=(false,S6 e X.env)::Qv [] X.env:=by rfl) (hp2:(Ul q2 (Qv [] X.env)).any (·.1)=false:=by rfl) :
  PE X (.Call (.Name "list" p1) [.Call (.Name "range" p2) [e] [] q2] [] q1) (xZ te):=by
 intro pins s σ H Q I h
 refine Sh (fM I hg1 hm1 hb1 ?_ (by decide) (by decide))
 refine Q5 ?_ he1 hp1
 rw[he1]
 refine (show PX _ _ (X7 ((false,S6 (.Call (.Name "range" p2) [e] [] q2) X.env)::Ul q1 (Qv [] X.env))) _ _ s from Xb ?_)
 refine Sh (fM I hg2 hm2 hb2 ?_ (by decide) (by decide))
 refine Q5 (thn (ha q2 pins s σ H _ I h) fun us s1 ⟨vs,H1,I1,r1,q⟩=>?_) he2 hp2
 obtain⟨n,rfl,hn,hQ⟩:=q
 obtain⟨u,rfl,ru⟩:=vals1 r1
 obtain⟨t,rfl⟩:=ru
 refine call_range_1 ?_
 refine (show PX _ _ (X7 []) _ _ _ from Xq ?_)
 have I2:Inv X pins σ H1 { s1 with heap:=s1.heap.push { cls:=.type "range",data:=.fields #[.int 0 s1.toks,.int (n:Int) t,.int 1 (s1.toks+1)] },toks:=s1.toks+1+1 }:=I1.kept fun b o e=>Pr _ e
 refine call_list_range (n:=n) (I1.ok.hd hc) (IsRange.new ..) (small_one (by decide) (by decide) (by lia) (by lia)) (by rw[rangeSize_one]; split <;> lia) (by lia) fun h' tk acc c hk hD hI=>?_
 refine⟨.ref _,_,I2.laid (t':=tk) (o:=.lst (((PL n).map fun i:Nat=>(i:Int)).map V.int)) hk (PK _) ⟨?_,acc.toList,c,ym hI,?_⟩,rfl,hQ _ (I2.hok.fresh (PK _))⟩
 ·rw[Pq,Pq,Qn]
  exact Q0 hn (by decide)
 ·rw[Array.toArray_toList]
  exact hD
section
variable {X:Cx}
end
end L2
namespace L2
open PySem PySem.Spec PyProof.Rows
end L2
namespace L2
open PySem PySem.Spec PyProof.Rows
section
variable {prog:Qt} {w:QF} {A:QG} {E:Value->Pu->Prop} {s:Pu}
end
section
variable {X:Cx}
end
end L2
namespace L2
open PySem PySem.Spec PyProof.Rows
section
variable {X:Cx} {elt t0 i0 t1 i1:Expr} {scope:Ve} {pos:Vk} {L F:List Rr} {cap:List Nat} {wi wi1:TI} {g g1:TG} {te:TE}
end
end L2
namespace L2
open PySem PySem.Spec PyProof.Rows
section
variable {X:Cx} {tg:Expr}
end
end L2
namespace L2
open PySem PySem.Spec PyProof.Rows
section
variable {X:Cx} {elt tg iter:Expr} {ifs:List Expr} {scope:Ve} {pos:Vk} {x0:Rr} {L F:List Rr} {cap:List Nat} {wi:TI} {g:TG} {tt:TT} {te:TE}
end
end L2
namespace L2
open PySem PySem.Spec PyProof.Rows
end L2
namespace L2
open PySem PySem.Spec PyProof.Rows
section
variable {X:Cx}
end
end L2
namespace L2
open PySem PySem.Spec PyProof.Rows
section
variable {X:Cx}
end
end L2
namespace L2
open PySem PySem.Spec PyProof.Rows
section
variable {prog:Qt} {w:QF} {A:QG} {R:W8->Pu->Prop} {E:Value->Pu->Prop} {s:Pu}
end
section
variable {X:Cx} {k:Nat}
end
end L2
namespace L2
open PySem PySem.Spec PyProof.Rows PySem.W
section
variable {prog:Qt} {w:QF} {A:QG} {E:Value->Pu->Prop} {κ:Vt} {it:Array Keyed} {s:Pu}
end
theorem zy:∀ (l:List (Addr × List Int)) (us:List Value),Vals (l.map fun p=>V.ref p.1) us->us=l.map fun p=>QK p.1
 | [],_,z=>by cases z; rfl
 | p::l,_,z=>by
  cases z with
  | cons e t =>
   cases e
   rw[zy l _ t]
   rfl
section
variable {X:Cx}
end
end L2
namespace L2
open PySem PySem.Spec PyProof.Rows
section
variable {X:Cx} {k:Nat}
end
end L2
namespace L2
open PySem PySem.Spec PyProof.Rows
end L2
namespace L2
open PySem PySem.Spec PyProof.Rows
section
variable {prog:Qt} {w:QF} {A:QG} {R:W8->Pu->Prop} {E:Value->Pu->Prop} {s:Pu}
end
section
variable {X:Cx}
end
end L2
namespace L2
open PySem PySem.W PyProof.Rows
def im (it:Array Keyed) (l:List Nat):Array Keyed:=(l.map (kas_item it)).toArray
section
variable (prog:Qt) (w:QF) (A:QG) (E:Value->Pu->Prop) (κ:Vt) (it:Array Keyed) (s:Pu)
end
section
variable {prog:Qt} {w:QF} {A:QG} {E:Value->Pu->Prop} {κ:Vt} {it:Array Keyed} {s:Pu}
end
section
variable (o:Nat->Nat->Bool) (N:Nat)
end
section
variable {prog:Qt} {w:QF} {A:QG} {E:Value->Pu->Prop} {κ:Vt} {it:Array Keyed} {s:Pu} {o:Nat->Nat->Bool} {N:Nat}
end
section
variable {prog:Qt} {w:QF} {A:QG} {E:Value->Pu->Prop} {κ:Vt} {it:Array Keyed} {s:Pu} {o:Nat->Nat->Bool} {N:Nat}
end
section
variable {prog:Qt} {w:QF} {A:QG} {E:Value->Pu->Prop} {κ:Vt} {it:Array Keyed} {s:Pu} {o:Nat->Nat->Bool} {N:Nat}
end
def cO:Nat->List (List Nat)
 | 0=>[[]]
 | n+1=>cO n++(cO n).map (·++[n])
end L2
namespace L2
open PySem PySem.Spec PyProof.Rows PySem.W PySem.SeqAt
open AutoSeq1 (wpAny_loadPart')
open MeetsSeq MeetsSeq2 MeetsSeq3
theorem kO:∀ {vs:List Value} {ns:List Int} {i:Nat} {n:Int},Ra vs ns->ns[i]? = some n->∃ t,vs[i]? = some (.int n t)
 | _,_,i,_,.nil,h=>by simp at h
 | _,_,0,_,.cons m t r,h=>by
  cases h
  exact⟨t,rfl⟩
 | _,_,i+1,n,.cons m t r,h=>by
  obtain⟨t',e⟩:=kO (i:=i) r (by simpa using h)
  exact⟨t',by simpa using e⟩
section
variable {prog:Qt} {w:QF} {A:QG} {E:Value->Pu->Prop} {s:Pu}
def qd (h h':Q7) (a:Addr):Prop:=∀ b o,b≠a->h.get? b=some o->h'.get? b=some o
theorem gm:∀ ns:List Int,HT.lexLt ns ns=false
 | []=>rfl
 | a::r=>by rw[HT.iI,if_pos rfl]; exact gm r
end
section
variable {X:Cx} {k:Nat}
theorem De {ps:List (Addr × List Int)}:∀ pm:List Nat,(∀ i∈pm,i < ps.length)->Vals (pm.map fun i=>V.ref (ps.getD i (0,[])).1) (pm.map fun i=>(ps.map fun p=>QK p.1).getD i QT)
 | [],_=>.nil
 | i::pm,h=>by
  have hi:=h i PN
  refine .cons ?_ (De pm fun j hj=>h j (Qc _ hj))
  show (ps.map fun p=>QK p.1).getD i QT = .ref (ps.getD i (0,[])).1
  simp [hi]
end
end L2
namespace L2
open PySem PySem.Spec PyProof.Rows
structure Kf (z p q i1 i2 i3 l1 l2 l3:Addr):Prop where
 pz:p≠z
 qz:q≠z
 az:i1≠z
 bz:i2≠z
 cz:i3≠z
 pq:p≠q
 pa:p≠i1
 pb:p≠i2
 pc:p≠i3
 qa:q≠i1
 qb:q≠i2
 qc:q≠i3
 ab:i1≠i2
 ac:i1≠i3
 bc:i2≠i3
 xz:l1≠z
 yz:l2≠z
 vz:l3≠z
 xq:l1≠q
 yq:l2≠q
 vq:l3≠q
 ya:l2≠i1
 va:l3≠i1
 vb:l3≠i2
theorem FZ {n c d e:Nat} (hc:c < n) (hd:d < n) (he:e < n):Kf (n+5) (n+3) (n+4) n (n+1) (n+2) c d e:=by
 constructor <;> (refine (fun (h:¬ @Eq Nat _ _)=>h) ?_) <;> lia
abbrev ir (h:Q7) (p:Addr) (a b c:Value):Prop:=h.get? p=some { cls:=.type "tuple",data:=.seq #[a,b,c] }
theorem oU (a b c:Value):checkTypeCall "zip" ⟨[a,b,c],[]⟩=pure ():=by kernel_rfl
theorem pY (a b c:Value):XC "zip.__new__" ⟨[.type "zip",a,b,c],[]⟩=pure ():=by kernel_rfl
theorem jK (a b c d:Value):Vy "object.__init__" ⟨[a,b,c,d],[]⟩:=by
 have e:=We (id:="object.__init__") (n:=['_','_','t','i','n','i','_','_']) (o:=['t','c','e','j','b','o']) (by kernel_rfl) F.owner_object
 unfold Vy
 rw[e]
 kernel_rfl
section
variable {prog:Qt} {w:QF} {A:QG} {E:Value->Pu->Prop} {s:Pu}
theorem c7 {T:Addr} {a b c x:Value} {k:Nat} {Q:Unit->Pu->Prop} (hT:ir s.heap T a b c)
  (h:∀ h',h'.get? T=some { cls:=.type "tuple",data:=.seq ((#[a,b,c]:Array Value).setIfInBounds k x) }->R9 T s.heap h'->Q () { s with heap:=h' }) :
  PX (Qo prog w) A (Xv T (·.setIfInBounds k x)) Q E s:=by
 refine U6 hT rfl (h _ ?_ (Rj ..))
 rw[Q4 _ hT rfl]
 simp [RJ]
theorem Iu {z p q i1 i2 i3 l1 l2 l3:Addr} {k:Nat} {xs ys vs:Array Value} {x y v a b c:Value} {Q:Option Value->Pu->Prop} (D:Kf z p q i1 i2 i3 l1 l2 l3)
  (hz:Uh s.heap z p q .none) (hp:ir s.heap p (.ref i1) (.ref i2) (.ref i3)) (hq:ir s.heap q a b c) (j1:s.heap.IsListIter i1 l1 k) (j2:s.heap.IsTupleIter i2 l2 k) (j3:s.heap.IsTupleIter i3 l3 k) (t1:s.heap.IsList l1 xs) (t2:s.heap.IsTuple l2 ys) (t3:s.heap.IsTuple l3 vs)
  (hx:xs[k]? = some x) (hy:ys[k]? = some y) (hv:vs[k]? = some v)
  (hQ:∀ h',Uh h' z p q (RB s.heap.objs.size)->ir h' q x y v->h'.IsListIter i1 l1 (k+1)->h'.IsTupleIter i2 l2 (k+1)->h'.IsTupleIter i3 l3 (k+1)->ir h' s.heap.objs.size x y v->h'.objs.size=s.heap.objs.size+1 →
   (∀ c o,c≠z->c≠q->c≠i1->c≠i2->c≠i3->s.heap.get? c=some o->h'.get? c=some o)->Q (some (.ref s.heap.objs.size)) { s with heap:=h' }):PX (Qo prog w) A (Td (.ref z)) Q E s:=by
 have hT:s.TypeIs (.ref z) "zip":=⟨_,hz,rfl⟩; unfold Td
 refine Pn (SQ (QW (name:=R7 "__next__") hT Tg (Q6 Tg hT Wr ?_ (Wd _))))
 show PX _ _ (W0 (.ref z) 2 >>= _) _ _ _; refine Pn (QS hz rfl (x:=.bool false) rfl ?_)
 show PX _ _ (W0 (.ref z) 3 >>= _) _ _ _; refine Pn (QS hz rfl (x:=.ref p) rfl ?_); refine Pn (Q8 hp rfl ?_)
 show PX _ _ (QX (.ref z) >>= _) _ _ _; refine Pn ?_; unfold QX
 refine Pn (QS hz rfl (x:=.none) rfl (Py ?_)); simp only[if_true]; refine Pn (Ur ?_); refine Pn (QS hz rfl (x:=.ref q) rfl ?_)
 refine Pn (Rz hz (by simp) fun h1 z1 b1=>?_); replace z1:Uh h1 z p q .ellipsis:=z1
 refine Pn ?_; simp only[Wm,WD,U8,Vh]; refine Pn (Pn (Uj ?_))
 show PX _ _ (QM (.ref i1) >>= _) _ _ _
 refine Pn (wpAny_nextOf_list_item (cR j1 b1 D.az) (lF t1 b1 D.xz) hx fun h2 u1 b2=>Py ?_)
 have q2:ir h2 q a b c:=(b2.2 _ D.qa).trans ((b1.2 _ D.qz).trans hq); refine Pn (Q8 q2 rfl ?_); refine Pn (c7 q2 fun h3 q3 b3=>?_)
 replace q3:ir h3 q x b c:=q3; refine Pn (TY (Py ?_)); refine Pn (Pn (Uj ?_))
 show PX _ _ (QM (.ref i2) >>= _) _ _ _
 refine Pn (nO (cW (cW (cW j2 b1 D.bz) b2 D.ab.symm) b3 D.qb.symm) (gY (gY (gY t2 b1 D.yz) b2 D.ya) b3 D.yq) hy fun h4 u2 b4=>Py ?_)
 have q4:ir h4 q x b c:=(b4.2 _ D.qb).trans q3; refine Pn (Q8 q4 rfl ?_); refine Pn (c7 q4 fun h5 q5 b5=>?_)
 replace q5:ir h5 q x y c:=q5; refine Pn (TY (Py ?_)); refine Pn (Pn (Uj ?_))
 show PX _ _ (QM (.ref i3) >>= _) _ _ _
 have j35:h5.IsTupleIter i3 l3 k:=cW (cW (cW (cW (cW j3 b1 D.cz) b2 D.ac.symm) b3 D.qc.symm) b4 D.bc.symm) b5 D.qc.symm
 have t35:h5.IsTuple l3 vs:=gY (gY (gY (gY (gY t3 b1 D.vz) b2 D.va) b3 D.vq) b4 D.vb) b5 D.vq
 refine Pn (nO j35 t35 hv fun h6 u3 b6=>Py ?_)
 have q6:ir h6 q x y c:=(b6.2 _ D.qc).trans q5; refine Pn (Q8 q6 rfl ?_); refine Pn (c7 q6 fun h7 q7 b7=>?_)
 replace q7:ir h7 q x y v:=q7; refine Pn (TY (Py (Py ?_))); refine Pn (Q8 q7 rfl ?_); refine Pn (wpAny_newTuple ?_)
 have sz:h7.objs.size=s.heap.objs.size:=by rw[b7.1,b6.1,b5.1,b4.1,b3.1,b2.1,b1.1]
 have z7:Uh h7 z p q .ellipsis:=(b7.2 _ D.qz.symm).trans ((b6.2 _ D.cz.symm).trans ((b5.2 _ D.qz.symm).trans ((b4.2 _ D.bz.symm).trans ((b3.2 _ D.qz.symm).trans ((b2.2 _ D.az.symm).trans z1)))))
 have kp:∀ c o,c≠z->c≠q->c≠i1->c≠i2->c≠i3->s.heap.get? c=some o->h7.get? c=some o:=fun c o c1 c2 c3 c4 c5 e=>(b7.2 c c2).trans ((b6.2 c c5).trans ((b5.2 c c2).trans ((b4.2 c c4).trans ((b3.2 c c2).trans ((b2.2 c c3).trans ((b1.2 c c1).trans e))))))
 have u17:h7.IsListIter i1 l1 (k+1):=cR (cR (cR (cR (cR u1 b3 D.qa.symm) b4 D.ab) b5 D.qa.symm) b6 D.ac) b7 D.qa.symm
 have u27:h7.IsTupleIter i2 l2 (k+1):=cW (cW (cW u2 b5 D.qb.symm) b6 D.bc) b7 D.qb.symm
 have u37:h7.IsTupleIter i3 l3 (k+1):=cW u3 b7 D.qc.symm
 have zl:z < h7.objs.size:=Qa z7
 show PX _ _ (SJ (.ref z) (.ref h7.objs.size) >>= _) _ _ _; refine Pn ?_; unfold SJ
 have z8:Uh (h7.push { cls:=.type "tuple",data:=.seq #[x,y,v] }) z p q .ellipsis:=Pr _ z7
 refine Pn (Rz z8 (by simp) fun h9 z9 b9=>?_); replace z9:Uh h9 z p q (RB h7.objs.size):=z9
 refine Rz z9 (by simp) fun h10 z10 b10=>?_; replace z10:Uh h10 z p q (RB h7.objs.size):=z10
 have up:∀ c o,c≠z->h7.get? c=some o->h10.get? c=some o:=fun c o c1 e=>(b10.2 c c1).trans ((b9.2 c c1).trans (Pr _ e))
 have t10:ir h10 h7.objs.size x y v:=(b10.2 _ (RV zl)).trans ((b9.2 _ (RV zl)).trans (PB _ rfl))
 have s10:h10.objs.size=h7.objs.size+1:=by rw[b10.1,b9.1,Q3]
 rw[sz] at z10 t10 s10; refine Py ⟨_,rfl,?_⟩
 show PX _ _ _ _ _ _
 rw[sz]
 exact Py (hQ h10 z10 (up _ _ D.qz q7) (by obtain⟨o,e,r⟩:=u17; exact⟨o,up _ o D.az e,r⟩) (by obtain⟨o,e,r⟩:=u27; exact⟨o,up _ o D.bz e,r⟩) (by obtain⟨o,e,r⟩:=u37; exact⟨o,up _ o D.cz e,r⟩) t10 s10 fun c o c1 c2 c3 c4 c5 e=>up c o c1 (kp c o c1 c2 c3 c4 c5 e))
theorem JB {z p q i1 i2 i3 l1 l2 l3:Addr} {k:Nat} {xs:Array Value} {a b c:Value} {Q:Fin->Pu->Prop} (hh:A.handled=none) (D:Kf z p q i1 i2 i3 l1 l2 l3)
  (hz:Uh s.heap z p q .none) (hp:ir s.heap p (.ref i1) (.ref i2) (.ref i3)) (j1:s.heap.IsListIter i1 l1 k) (t1:s.heap.IsList l1 xs)
  (hx:xs[k]? = none) (hE:∀ h' e,(∀ c o,c≠z->c≠q->c≠i1->c≠i2->c≠i3->s.heap.get? c=some o->h'.get? c=some o)->(∃ o,h'.get? e=some o/\o.cls = .type "StopIteration")->E (.ref e) { s with heap:=h' }) :
  PX (Qo prog w) A (Sd.«zip.__next__» ⟨[.ref z],[]⟩) Q E s:=by
 show PX _ _ (W0 (.ref z) 2 >>= _) _ _ _; refine Pn (QS hz rfl (x:=.bool false) rfl ?_)
 show PX _ _ (W0 (.ref z) 3 >>= _) _ _ _; refine Pn (QS hz rfl (x:=.ref p) rfl ?_); refine Pn (Q8 hp rfl ?_)
 show PX _ _ (QX (.ref z) >>= _) _ _ _; refine Pn ?_; unfold QX
 refine Pn (QS hz rfl (x:=.none) rfl (Py ?_)); simp only[if_true]; refine Pn (Ur ?_); refine Pn (QS hz rfl (x:=.ref q) rfl ?_)
 refine Pn (Rz hz (by simp) fun h1 z1 b1=>?_); replace z1:Uh h1 z p q .ellipsis:=z1
 refine Pn ?_; simp only[Wm,WD,U8,Vh]; refine Pn (Pn (Uj ?_))
 show PX _ _ (QM (.ref i1) >>= _) _ _ _
 refine Pn (wpAny_nextOf_list_end hh (cR j1 b1 D.az) (lF t1 b1 D.xz) hx fun h2 e b2 he=>?_)
 obtain⟨oe,ho,hc⟩:=he
 have z2:Uh h2 z p q .ellipsis:=b2 _ _ D.az.symm z1
 have ez:e≠z:=fun u=>by subst u; rw[z2] at ho; cases ho; simp at hc
 exact Rz z2 (by simp) fun h3 _ b3=>hE h3 e (fun c o c1 _ c3 _ _ u=>(b3.2 c c1).trans (b2 _ _ c3 ((b1.2 c c1).trans u))) ⟨oe,(b3.2 e ez).trans ho,hc⟩
theorem Ly {z p q i1 i2 i3 l1 l2 l3:Addr} {k:Nat} {xs:Array Value} {Q:Option Value->Pu->Prop} (hh:A.handled=none) (D:Kf z p q i1 i2 i3 l1 l2 l3)
  (hz:Uh s.heap z p q .none) (hp:ir s.heap p (.ref i1) (.ref i2) (.ref i3)) (j1:s.heap.IsListIter i1 l1 k) (t1:s.heap.IsList l1 xs)
  (hx:xs[k]? = none) (hQ:∀ h',(∀ c o,c≠z->c≠q->c≠i1->c≠i2->c≠i3->s.heap.get? c=some o->h'.get? c=some o)->Q none { s with heap:=h' }):PX (Qo prog w) A (Td (.ref z)) Q E s:=by
 have hT:s.TypeIs (.ref z) "zip":=⟨_,hz,rfl⟩; unfold Td
 refine Pn (SQ (QW (name:=R7 "__next__") hT Tg (Q6 Tg hT Wr (JB (a:=.none) (b:=.none) (c:=.none) hh D hz hp j1 t1 hx fun h' e kp he=>?_) (Wd _))))
 obtain⟨o,ho,hc⟩:=he
 exact Pn (Tw (T:="StopIteration") (b:=true) ⟨o,ho,hc⟩ V1 (Py (hQ _ kp)))
abbrev t3A (h:Q7) (l:Addr):Q7:=h.push { cls:=.type "list_iterator",data:=.fields #[.ref l,.int 0 0] }
abbrev t3B (h:Q7) (l t:Addr):Q7:=zA (t3A h l) t
abbrev t3C (h:Q7) (l t u:Addr):Q7:=zA (t3B h l t) u
abbrev t3D (h:Q7) (l t u:Addr):Q7:=(t3C h l t u).push { cls:=.type "tuple",data:=.seq #[.ref h.objs.size,.ref (t3A h l).objs.size,.ref (t3B h l t).objs.size] }
abbrev t3E (h:Q7) (l t u:Addr):Q7:=(t3D h l t u).push { cls:=.type "tuple",data:=.seq #[.none,.none,.none] }
abbrev t3F (h:Q7) (l t u:Addr):Q7:=(t3E h l t u).push { cls:=.type "zip",data:=.fields #[.none,.bool false,.bool false,.ref (t3C h l t u).objs.size,.ref (t3D h l t u).objs.size] }
theorem Mw (l1 l2 l3:Addr) (xs ys vs:Array Value) :
  Meets (Sd.«zip.__new__» ⟨[.type "zip",.ref l1,.ref l2,.ref l3],[]⟩) (fun _ R s=>s.heap.IsList l1 xs/\s.heap.IsTuple l2 ys/\s.heap.IsTuple l3 vs/\R (.ok (.ret (.ref (t3E s.heap l1 l2 l3).objs.size))) { s with heap:=t3F s.heap l1 l2 l3 }) :=
 .of_wp fun prog w A R s h=>by
  obtain⟨hp,g,d,tk,os⟩:=s; obtain⟨a1,a2,a3,h⟩:=h; have hsub:=sub_zip
  have T1:Heap.IsList (Wb ⟨hp,g,d,tk,os⟩) l1 xs:=a1
  have T2:Xo (Wb ⟨hp.push { cls:=.type "list_iterator",data:=.fields #[.ref l1,.int 0 0] },g,d,tk,os⟩) l2 ys:=by
   obtain⟨o,e,r⟩:=a2
   exact⟨o,Pr _ e,r⟩
  have T3:Xo (Wb ⟨(hp.push { cls:=.type "list_iterator",data:=.fields #[.ref l1,.int 0 0] }).push { cls:=.type "tuple_iterator",data:=.fields #[.ref l2,.int 0 0] },g,d,tk,os⟩) l3 vs:=by
   obtain⟨o,e,r⟩:=a3
   exact⟨o,Pr _ (Pr _ e),r⟩
  wp_walk using Up T1,T9 T2,T9 T3
  exact⟨_,rfl,h⟩
theorem Ji {l1 l2 l3:Addr} {xs ys vs:Array Value} {Q:Value->Pu->Prop} (t1:s.heap.IsList l1 xs) (t2:s.heap.IsTuple l2 ys) (t3:s.heap.IsTuple l3 vs)
  (h:∀ h',Uh h' (s.heap.objs.size+5) (s.heap.objs.size+3) (s.heap.objs.size+4) .none->ir h' (s.heap.objs.size+3) (.ref s.heap.objs.size) (.ref (s.heap.objs.size+1)) (.ref (s.heap.objs.size+2))->ir h' (s.heap.objs.size+4) .none .none .none →
   h'.IsListIter s.heap.objs.size l1 0->h'.IsTupleIter (s.heap.objs.size+1) l2 0->h'.IsTupleIter (s.heap.objs.size+2) l3 0->(∀ c o,s.heap.get? c=some o->h'.get? c=some o)->Q (.ref (s.heap.objs.size+5)) { s with heap:=h' }) :
  PX (Qo prog w) A (call (.type "zip") [.ref l1,.ref l2,.ref l3]) Q E s:=by
 refine Xh F.called_zip (by decide) (oU _ _ _) (pY _ _ _) (fun obj=>jK obj _ _ _) F.entry_zip_new (Mw l1 l2 l3 xs ys vs) ⟨t1,t2,t3,?_⟩
 have y1:(t3A s.heap l1).objs.size=s.heap.objs.size+1:=Q3 ..
 have y2:(t3B s.heap l1 l2).objs.size=s.heap.objs.size+2:=by rw[Q3,y1]
 have y3:(t3C s.heap l1 l2 l3).objs.size=s.heap.objs.size+3:=by rw[Q3,y2]
 have y4:(t3D s.heap l1 l2 l3).objs.size=s.heap.objs.size+4:=by rw[Q3,y3]
 have y5:(t3E s.heap l1 l2 l3).objs.size=s.heap.objs.size+5:=by rw[Q3,y4]
 have w6:(t3F s.heap l1 l2 l3).get? (t3E s.heap l1 l2 l3).objs.size=some _:=PB _ rfl
 have w5:(t3F s.heap l1 l2 l3).get? (t3D s.heap l1 l2 l3).objs.size=some _:=Pr _ (PB _ rfl)
 have w4:(t3F s.heap l1 l2 l3).get? (t3C s.heap l1 l2 l3).objs.size=some _:=Pr _ (Pr _ (PB _ rfl))
 have w3:(t3F s.heap l1 l2 l3).get? (t3B s.heap l1 l2).objs.size=some _:=Pr _ (Pr _ (Pr _ (PB _ rfl)))
 have w2:(t3F s.heap l1 l2 l3).get? (t3A s.heap l1).objs.size=some _:=Pr _ (Pr _ (Pr _ (Pr _ (PB _ rfl))))
 have w1:(t3F s.heap l1 l2 l3).get? s.heap.objs.size=some _:=Pr _ (Pr _ (Pr _ (Pr _ (Pr _ (PB _ rfl)))))
 show _/\_
 rw[y3,y4,y5] at w6; rw[y4] at w5; rw[y1,y2,y3] at w4; rw[y2] at w3; rw[y1] at w2; rw[y5]
 exact⟨⟨_,w6,rfl⟩,h _ w6 w4 w5 ⟨_,w1,rfl,rfl⟩ ⟨_,w2,rfl,rfl⟩ ⟨_,w3,rfl,rfl⟩ fun c o u=>Pr _ (Pr _ (Pr _ (Pr _ (Pr _ (Pr _ u)))))⟩
end
def It3 (K : Qp) (a b c : Addr) : It :=
  ⟨fun i H => ∃ xs ys vs x y v, SqL K H a xs ∧ SqT K H b ys ∧ SqT K H c vs ∧ xs[i]? = some x ∧ ys[i]? = some y ∧ vs[i]? = some v,
   fun i H w H' => ∃ p x y v, H p = none ∧ w = .ref p ∧ (∀ xs, SqL K H a xs → xs[i]? = some x) ∧ (∀ ys, SqT K H b ys → ys[i]? = some y) ∧ (∀ vs, SqT K H c vs → vs[i]? = some v) ∧ H' = upd H p (.tup [x, y, v]),
   fun i H => ∃ xs, SqL K H a xs ∧ xs.length ≤ i⟩
def tn3 (z p q i1 i2 i3 a b c:Addr) (i:Nat) (h:Q7):Prop:=Uh h z p q .none/\ir h p (.ref i1) (.ref i2) (.ref i3)/\(∃ u v w,ir h q u v w)/\h.IsListIter i1 a i/\h.IsTupleIter i2 b i/\h.IsTupleIter i3 c i
theorem IV {P:Qt} {w:QF} {K:Qp} {elts:List Expr} {x1} {pos:Vk} {z p q i1 i2 i3 a b c:Addr} (D:Kf z p q i1 i2 i3 a b c) :
  Turn P w K (.Tuple elts x1 pos) (It3 K a b c) [z,p,q,i1,i2,i3] z (tn3 z p q i1 i2 i3 a b c) where
 mem:=by simp
 obj:=fun i h st e he=>by
  obtain⟨hz,hp,⟨u,v,t,hq⟩,⟨o1,e1,_,d1⟩,⟨o2,e2,_,d2⟩,⟨o3,e3,_,d3⟩⟩:=st
  simp only[Rb,RD,or_false] at he
  rcases he with rfl | rfl | rfl | rfl | rfl | rfl
  ·exact⟨_,hz,fun v z=>by cases z⟩
  ·exact⟨_,hp,fun v z=>by cases z⟩
  ·exact⟨_,hq,fun v z=>by cases z⟩
  ·exact⟨_,e1,fun v z=>by rw[d1] at z; cases z⟩
  ·exact⟨_,e2,fun v z=>by rw[d2] at z; cases z⟩
  ·exact⟨_,e3,fun v z=>by rw[d3] at z; cases z⟩
 keep:=fun i h h' st k=>by
  obtain⟨hz,hp,⟨u,v,t,hq⟩,⟨o1,e1,r1⟩,⟨o2,e2,r2⟩,⟨o3,e3,r3⟩⟩:=st
  exact⟨k z (by simp) _ hz,k p (by simp) _ hp,⟨u,v,t,k q (by simp) _ hq⟩,⟨o1,k i1 (by simp) _ e1,r1⟩,⟨o2,k i2 (by simp) _ e2,r2⟩,⟨o3,k i3 (by simp) _ e3,r3⟩⟩
 item:=by
  intro X hP hw hK hc i pins s σ H E I hf st hg
  subst hP hw hK
  obtain⟨xs,ys,vs,x,y,v,hx,hy,hv,ex,ey,ev⟩:=hg
  obtain⟨hz,hp,⟨u1,u2,u3,hq⟩,j1,j2,j3⟩:=st
  obtain⟨its,rv,tp,_⟩:=I.list hx
  obtain⟨its2,rv2,tp2,_⟩:=I.tuple hy
  obtain⟨its3,rv3,tp3,_⟩:=I.tuple hv
  obtain⟨xu,hxu,rx⟩:=rv.get ex
  obtain⟨yu,hyu,ry⟩:=rv2.get ey
  obtain⟨vu,hvu,rw3⟩:=rv3.get ev
  refine Iu D hz hp hq j1 j2 j3 (show s.heap.IsList a its.toArray from tp.isList) (show s.heap.IsTuple b its2.toArray from tp2) (show s.heap.IsTuple c its3.toArray from tp3) (x:=xu) (y:=yu) (v:=vu) (by simpa using hxu) (by simpa using hyu) (by simpa using hvu) fun h' z' q' w1 w2 w3 t' _ kp=>⟨_,rfl,?_⟩
  refine wpAny_letOwnedTupleGo_zip z' fun h2 z2 b2=>?_
  have lt:∀ {c o},s.heap.get? c=some o->c < s.heap.objs.size:=fun e=>Qa e
  have zne:s.heap.objs.size≠z:=RV (lt hz)
  have hfr:H s.heap.objs.size=none:=I.fresh
  have I1:Inv X pins σ (upd H s.heap.objs.size (.tup [x,y,v])) { s with heap:=s.heap.push { cls:=.type "tuple",data:=.seq #[xu,yu,vu] } } :=
   I.laid (t':=s.toks) (fun _ _ e=>Pr _ e) (PK _) ⟨by show 3<=sizeLine; decide,[xu,yu,vu],.cons rx (.cons ry (.cons rw3 .nil)),⟨_,PB _ rfl,rfl,_,rfl⟩⟩
  have blt:∀ c∈[z,p,q,i1,i2,i3],c < s.heap.objs.size:=fun c hc=>by
   obtain⟨_,e1,_⟩:=j1
   obtain⟨_,e2,_⟩:=j2
   obtain⟨_,e3,_⟩:=j3
   simp only[Rb,RD,or_false] at hc
   rcases hc with rfl | rfl | rfl | rfl | rfl | rfl
   ·exact lt hz
   ·exact lt hp
   ·exact lt hq
   ·exact lt e1
   ·exact lt e2
   ·exact lt e3
  have ff:∀ c∈[z,p,q,i1,i2,i3],uW X pins (upd H s.heap.objs.size (.tup [x,y,v])) c:=fun c hc=>by
   obtain⟨f0,fr⟩:=hf c hc
   exact⟨by rw[bx (Qq (blt c hc))]; exact f0,fr⟩
  have kk:∀ c o,c ∉ [z,q,i1,i2,i3]->(s.heap.push { cls:=.type "tuple",data:=.seq #[xu,yu,vu] }).get? c=some o->h2.get? c=some o:=fun c o hc e=>by
   have c1:c≠z:=fun h=>hc (by simp [h])
   refine (b2.2 c c1).trans ?_
   rcases Vw e with⟨ec,eo⟩ | e'
   ·subst ec
    subst eo
    exact t'
   ·exact kp c o c1 (fun h=>hc (by simp [h])) (fun h=>hc (by simp [h])) (fun h=>hc (by simp [h])) (fun h=>hc (by simp [h])) e'
  have I2:Inv X pins σ (upd H s.heap.objs.size (.tup [x,y,v])) { s with heap:=h2 } :=
   Inv.iG (s:={ s with heap:=s.heap.push { cls:=.type "tuple",data:=.seq #[xu,yu,vu] } }) (h':=h2) (t':=s.toks) (ch:=[z,q,i1,i2,i3]) I1 kk fun c hc=>ff c (by
    simp only[Rb] at hc ⊢
    rcases hc with h | h | h | h | h
    ·exact .inl h
    ·exact .inr (.inr (.inl h))
    ·exact .inr (.inr (.inr (.inl h)))
    ·exact .inr (.inr (.inr (.inr (.inl h))))
    ·exact .inr (.inr (.inr (.inr (.inr h)))))
  refine⟨.ref s.heap.objs.size,_,I2,rfl,⟨_,x,y,v,hfr,rfl,fun zs hzs=>?_,fun zs hzs=>?_,fun zs hzs=>?_,rfl⟩,⟨z2,(b2.2 _ D.pz).trans (kp _ _ D.pz D.pq D.pa D.pb D.pc hp),⟨_,_,_,(b2.2 _ D.qz).trans q'⟩,cR w1 b2 D.az,cW w2 b2 D.bz,cW w3 b2 D.cz⟩,fun c hc=>(ff c hc).1⟩
  ·rw[I.lX hzs hx]; exact ex
  ·rw[I.gG hzs hy]; exact ey
  ·rw[I.gG hzs hv]; exact ev
 done:=by
  intro X hP hw hK hc i pins s σ H E I hf st hg
  subst hP hw hK
  obtain⟨xs,hx,hend⟩:=hg
  obtain⟨hz,hp,⟨u1,u2,u3,hq⟩,j1,j2,j3⟩:=st
  obtain⟨its,rv,tp,_⟩:=I.list hx
  have l1:=rv.length
  refine Ly (I.ok.hd hc) D hz hp j1 (show s.heap.IsList a its.toArray from tp.isList) (by simp; lia) fun h' kp=>⟨rfl,?_⟩
  exact I.iG (t':=s.toks) (ch:=[z,q,i1,i2,i3]) (fun c o hc e=>kp c o (fun h=>hc (by simp [h])) (fun h=>hc (by simp [h])) (fun h=>hc (by simp [h])) (fun h=>hc (by simp [h])) (fun h=>hc (by simp [h])) e)
   fun c hc=>hf c (by simp only[Rb] at hc ⊢; rcases hc with h | h | h | h | h; exact .inl h; exact .inr (.inr (.inl h)); exact .inr (.inr (.inr (.inl h))); exact .inr (.inr (.inr (.inr (.inl h)))); exact .inr (.inr (.inr (.inr (.inr h)))))
 self:=fun _ _ _ _ _ st h=>Wj st.1 h
def iZ3 (K:Qp) (ta:TA):TI:=fun σ H R=>ta σ H fun ws H1=>∃ a b c xs ys vs,ws=[.ref a,.ref b,.ref c]/\SqL K H1 a xs/\SqT K H1 b ys/\SqT K H1 c vs/\R (It3 K a b c) H1
theorem Nu {X:Cx} {elts:List Expr} {x1} {tpos:Vk} {a b c:Expr} {ta:TA} {p pos:Vk} (hg:Gl X "zip") (hm:X.mg "zip" = none) (ha:PA X [a,b,c] ta) (hs:Qv [a,b,c] X.env=[(false,S6 a X.env),(false,S6 b X.env),(false,S6 c X.env)]:=by rfl) (hs2:Qv [b,c] X.env=[(false,S6 b X.env),(false,S6 c X.env)]:=by rfl) :
  PI X (.Tuple elts x1 tpos) (.Call (.Name "zip" p) [a,b,c] [] pos) (iZ3 X.K ta):=by
 intro pins s σ H R I h
 refine Call_ (fM I hg hm boot_zip (Q5 (thn (ha pos pins s σ H _ I h) fun us s1 ⟨vs,H1,I1,r1,q1⟩=>?_) (by rw[hs,hs2]) (by rw[hs2]; rfl)))
 obtain⟨d1,d2,d3,xs,ys,ws,e,hx,hy,hv,q⟩:=q1
 subst e
 cases r1 with
 | cons ru1 r1 =>
 cases r1 with
 | cons ru2 r1 =>
 cases r1 with
 | cons ru3 r1 =>
 cases r1
 cases ru1
 cases ru2
 cases ru3
 obtain⟨its,_,tp,_⟩:=I1.list hx
 obtain⟨its2,_,tp2,_⟩:=I1.tuple hy
 obtain⟨its3,_,tp3,_⟩:=I1.tuple hv
 refine Ji (show s1.heap.IsList d1 its.toArray from tp.isList) (show s1.heap.IsTuple d2 its2.toArray from tp2) (show s1.heap.IsTuple d3 its3.toArray from tp3) fun h' z' p' q' j1 j2 j3 kp=>?_
 have lc:d1 < s1.heap.objs.size:=by obtain⟨o,e,_⟩:=tp.isList; exact Qa e
 have ld:d2 < s1.heap.objs.size:=by obtain⟨o,e,_⟩:=tp2; exact Qa e
 have le:d3 < s1.heap.objs.size:=by obtain⟨o,e,_⟩:=tp3; exact Qa e
 have D:Kf (s1.heap.objs.size+5) (s1.heap.objs.size+3) (s1.heap.objs.size+4) s1.heap.objs.size (s1.heap.objs.size+1) (s1.heap.objs.size+2) d1 d2 d3:=FZ lc ld le
 refine Wj z' ⟨_,_,_,_,H1,rfl,I1.kept (t':=s1.toks) kp,IV D,⟨z',p',⟨_,_,_,q'⟩,j1,j2,j3⟩,fun e he=>?_,q⟩
 have hle:s1.heap.objs.size<=e:=by
  simp only[Rb,RD,or_false] at he
  rcases he with rfl | rfl | rfl | rfl | rfl | rfl <;> lia
 exact I1.Ef hle (I1.hok.fresh hle)
theorem Jx {K:Qp} {a b c D:Addr} {xs ys vs:List V} {g:TG} {tt:TT} {te:TE} {H1:Hp} {Q:Hp->Prop} {σ0:St} (hlen:xs.length=ys.length) (hlen2:xs.length=vs.length) (Pv:Nat->List V->St->Hp->Prop) (h0:Pv 0 [] σ0 (upd H1 D (.lst [])))
  (hl:∀ i zs σ H,i<=xs.length->Pv i zs σ H->SqL K H a xs/\SqT K H b ys/\SqT K H c vs/\H D=some (.lst zs))
  (hs:∀ i zs x y v p σ H,xs[i]? = some x->ys[i]? = some y->vs[i]? = some v->H p=none->Pv i zs σ H->g (.ref p) σ (upd H p (.tup [x,y,v])) fun σ3 H3=>tt σ3 H3 fun c H4=>if c=true then te σ3 H4 fun v H5=>H5 D=some (.lst zs)/\zs.length < sizeLine/\Pv (i+1) (zs++[v]) σ3 (upd H5 D (.lst (zs++[v]))) else Pv (i+1) zs σ3 H4)
  (hd:∀ zs σ H,Pv xs.length zs σ H->Q H):f9 D σ0 (It3 K a b c) g tt te H1 Q:=by
 refine⟨fun i m zs σ H=>m=xs.length - i/\i<=xs.length/\Pv i zs σ H,⟨xs.length,by simp,Qw _,h0⟩,?_⟩
 rintro i m zs σ H ⟨rfl,hi,p⟩
 obtain⟨q1,q2,q3,qD⟩:=hl i zs σ H hi p
 refine⟨qD,?_⟩
 by_cases hlt:i < xs.length
 ·have hlt2:i < ys.length:=by lia
  have hlt3:i < vs.length:=by lia
  refine .inr ⟨⟨xs,ys,vs,xs[i],ys[i],vs[i],q1,q2,q3,by simp [hlt],by simp [hlt2],by simp [hlt3]⟩,Pv (i+1),fun zs' σ' H' p'=>⟨xs.length - (i+1),by lia,rfl,hlt,p'⟩,fun v H' y=>?_⟩
  obtain⟨pp,x,y,v,hp,rfl,hx,hy,hv,rfl⟩:=y
  exact hs i zs x y v pp σ _ (hx xs q1) (hy ys q2) (hv vs q3) hp p
 ·have e:i=xs.length:=by lia
  subst e
  exact .inl ⟨⟨xs,q1,PK _⟩,hd zs σ H p⟩
end L2
namespace L2
open PySem PySem.Spec PyProof.Rows
section
variable {X:Cx}
def Ce (K:Qp):R2:=fun x y H Q=>Jl K x y H Q∨∃ (a:Addr) (ns:List Int),x = .ref a/\y = .non/\SqT K H a (ns.map V.int)/\Q (.bl true) H
theorem DP (hu:X.A.units < cLine):OpR X (S7 .NotEq) (Ce X.K):=by
 intro pins s σ H x y v u Q I rx ry h
 rcases h with h | ⟨a,ns,rfl,rfl,ha,q⟩
 ·exact Ar hu pins s σ H x y v u Q I rx ry h
 ·cases rx
  cases ry
  obtain⟨its,r1,p1,_⟩:=I.tuple ha
  exact SeqAt.RcNeAt.tuple_none (show s.heap.IsTuple a its.toArray from p1) hu X.prog X.w X.xe _ ⟨.bl true,H,I,rfl,q⟩
end
end L2
namespace L2
open PySem PySem.Spec PyProof.Rows
section
variable {κ:Type} [DecidableEq κ]
def iK (kvs:List (κ × V)) (k:κ):Option V:=(kvs.find? fun kv=>decide (kv.1=k)).map (·.2)
def putK (kvs:List (κ × V)) (k:κ) (v:V):List (κ × V) :=
 if (kvs.any fun kv=>decide (kv.1=k))=true then kvs.map (fun kv=>if kv.1=k then (kv.1,v) else kv) else kvs++[(k,v)]
theorem Fg {k:κ}:iK ([]:List (κ × V)) k=none:=rfl
theorem dz {p:κ × V} {r:List (κ × V)} {k:κ} (e:p.1=k):iK (p::r) k=some p.2:=by simp [iK,U9,e]
theorem cX {p:κ × V} {r:List (κ × V)} {k:κ} (e:¬ p.1=k):iK (p::r) k=iK r k:=by simp [iK,U9,e]
theorem jz (k:κ):∀ kvs:List (κ × V),(kvs.any fun kv=>decide (kv.1=k))=(iK kvs k).isSome
 | []=>rfl
 | p::r=>by
  rw[Vq]
  by_cases e:p.1=k
  ·simp only[dz e,decide_eq_true e,Bool.true_or,Option.isSome_some]
  ·rw[cX e,decide_eq_false e,W4]; exact jz k r
theorem xR (k j:κ) (y:V):∀ kvs:List (κ × V),iK (kvs.map fun kv=>if kv.1=k then (kv.1,y) else kv) j=(iK kvs j).map fun x=>if j=k then y else x
 | []=>rfl
 | p::r=>by
  have ih:=xR k j y r
  rw[QH]
  by_cases h:p.1=k
  ·rw[if_pos h]
   by_cases e:p.1=j
   ·rw[dz (p:=(p.1,y)) e,dz e,Wz,if_pos (e.symm.trans h)]
   ·rw[cX (p:=(p.1,y)) e,cX e,ih]
  ·rw[if_neg h]
   by_cases e:p.1=j
   ·rw[dz (p:=p) e,dz e,Wz,if_neg (fun z=>h (e.trans z))]
   ·rw[cX (p:=p) e,cX e,ih]
theorem tO (k j:κ) (y:V):∀ kvs:List (κ × V),iK kvs k=none->iK (kvs++[(k,y)]) j=if j=k then some y else iK kvs j
 | [],_=>by
  by_cases e:k=j
  ·rw[if_pos e.symm]; exact dz (p:=(k,y)) e
  ·rw[if_neg (fun z=>e z.symm)]; exact cX (p:=(k,y)) e
 | p::r,hn=>by
  rw[List.cons_append]
  have hk:¬ p.1=k:=fun z=>by rw[dz z] at hn; cases hn
  rw[cX hk] at hn
  have ih:=tO k j y r hn
  by_cases e:p.1=j
  ·rw[dz e,dz e,if_neg (fun z=>hk (e.trans z))]
  ·rw[cX e,cX e,ih]
theorem DR (kvs:List (κ × V)) (k j:κ) (y:V):iK (putK kvs k y) j=if j=k then some y else iK kvs j:=by
 unfold putK
 by_cases a:(kvs.any fun kv=>decide (kv.1=k))=true
 ·rw[if_pos a,xR]
  rw[jz] at a
  by_cases e:j=k
  ·obtain⟨x,hx⟩:=Option.isSome_iff_exists.mp a
   rw[if_pos e,e,hx,Wz,if_pos rfl]
  ·rw[if_neg e]
   cases iK kvs j with
   | none=>rfl
   | some x=>rw[Wz,if_neg e]
 ·rw[if_neg a]
  refine tO k j y kvs ?_
  rw[jz] at a
  cases q:iK kvs k with
  | none=>rfl
  | some x=>rw[q] at a; exact (a rfl).elim
theorem iZ (kvs:List (κ × V)) (k:κ) (v:V):(putK kvs k v).length<=kvs.length+1:=by
 unfold putK
 split
 ·rw[Pq]; lia
 ·rw[Qf,Qk,List.length_nil]; lia
theorem lZ {kvs:List (κ × V)} {k:κ} (v:V) (h:iK kvs k=none):putK kvs k v=kvs++[(k,v)]:=by
 unfold putK
 rw[jz,h]
 exact if_neg (by decide)
theorem zr.mJ {o:Option V} {u:Option Value} (r:zr o u):o.isSome=u.isSome:=by
 cases o with
 | none=>cases u with
  | none=>rfl
  | some _=>exact (show False from r).elim
 | some _=>cases u with
  | none=>exact (show False from r).elim
  | some _=>rfl
theorem KV.val {kvs:List (κ × V)} {vs:List (κ × Value)} (r:KV kvs vs) (k:κ):zr (iK kvs k) (Xd vs k):=by
 unfold KV at r
 induction r with
 | nil=>exact Uu
 | @cons p q ps qs h t ih =>
  obtain⟨h1,h2⟩:=h
  by_cases e:p.1=k
  ·have e':q.1=k:=h1.symm.trans e
   have b:Xd (q::qs) k=some q.2:=by simp [Xd,U9,e']
   rw[dz e,b]; exact h2
  ·have e':¬ q.1=k:=fun z=>e (h1.trans z)
   have b:Xd (q::qs) k=Xd qs k:=by simp [Xd,U9,e']
   rw[cX e,b]; exact ih
theorem KV.any {kvs:List (κ × V)} {vs:List (κ × Value)} (r:KV kvs vs) (k:κ):(kvs.any fun kv=>decide (kv.1=k))=vs.any fun kv=>decide (kv.1=k):=by
 unfold KV at r
 induction r with
 | nil=>rfl
 | cons h t ih=>rw[Vq,Vq,ih,h.1]
theorem KV.repl {kvs:List (κ × V)} {vs:List (κ × Value)} (r:KV kvs vs) (k:κ) {y:V} {u:Value} (ry:RelV y u) :
  KV (kvs.map fun kv=>if kv.1=k then (kv.1,y) else kv) (vs.map fun kv=>if kv.1=k then (kv.1,u) else kv):=by
 unfold KV at r ⊢
 induction r with
 | nil=>exact .nil
 | @cons p q ps qs h t ih =>
  rw[QH,QH]
  refine .cons ?_ ih
  obtain⟨h1,h2⟩:=h
  by_cases e:p.1=k
  ·rw[if_pos e,if_pos (h1.symm.trans e)]; exact⟨h1,ry⟩
  ·rw[if_neg e,if_neg (fun z=>e (h1.trans z))]; exact⟨h1,h2⟩
theorem KV.put {kvs:List (κ × V)} {vs:List (κ × Value)} (r:KV kvs vs) (k:κ) {y:V} {u:Value} (ry:RelV y u):KV (putK kvs k y) (stored vs k u):=by
 unfold putK stored
 rw[r.any k]
 by_cases e:(vs.any fun kv=>decide (kv.1=k))=true
 ·rw[if_pos e,if_pos e]; exact r.repl k ry
 ·rw[if_neg e,if_neg e]; exact Paired.snoc r ⟨rfl,ry⟩
theorem KV.length {kvs:List (κ × V)} {vs:List (κ × Value)} (r:KV kvs vs):kvs.length=vs.length:=W2 r
end
theorem DK {P:Qt} {w:QF} {k:Key} {u:Value} (r:RelV (kV k) u):(dW P w).is k u=true:=by
 cases k with
 | inl i=>obtain⟨t,e⟩:=(show ∃ t,u=TJ i t from r); subst e; exact uK P w i t
 | inr x=>obtain⟨t,e⟩:=(show ∃ t,u=Value.str x t from r); subst e; exact vh P w x t
theorem sX {P:Qt} {w:QF}:∀ {ks:List Key} {us:List Value},Vals (ks.map kV) us->ItemsAre (dW P w) ks us
 | [],_,r=>by rw[Vg] at r; cases r; exact .nil
 | k::ks,_,r=>by
  rw[QH] at r
  cases r with
  | cons h t=>exact .cons (DK h) (sX t)
abbrev KT (H:Hp):List (List Key × V)->List (List Key × Addr × Value)->Prop:=Paired fun p q=>p.1=q.1/\H q.2.1=some (.tup (p.1.map kV))/\RelV p.2 q.2.2
theorem KT.val {H:Hp} {kvs:List (List Key × V)} {xs:List (List Key × Addr × Value)} (r:KT H kvs xs) (k:List Key):zr (iK kvs k) ((atKey xs k).map (·.2)):=by
 induction r with
 | nil=>exact Uu
 | @cons p q ps qs h t ih =>
  obtain⟨h1,_,h2⟩:=h
  by_cases e:p.1=k
  ·have e':q.1=k:=h1.symm.trans e
   have b:atKey (q::qs) k=some q.2:=by simp [atKey,U9,e']
   rw[dz e,b]; exact h2
  ·have e':¬ q.1=k:=fun z=>e (h1.trans z)
   have b:atKey (q::qs) k=atKey qs k:=by simp [atKey,U9,e']
   rw[cX e,b]; exact ih
theorem KT.repl {H:Hp} {kvs:List (List Key × V)} {xs:List (List Key × Addr × Value)} (r:KT H kvs xs) (k:List Key) {y:V} {u:Value} (ry:RelV y u) :
  KT H (kvs.map fun kv=>if kv.1=k then (kv.1,y) else kv) (xs.map (putAt k u)):=by
 induction r with
 | nil=>exact .nil
 | @cons p q ps qs h t ih =>
  rw[QH,QH]
  refine .cons ?_ ih
  obtain⟨h1,h2,h3⟩:=h
  unfold putAt
  by_cases e:p.1=k
  ·rw[if_pos e,if_pos (h1.symm.trans e)]; exact⟨h1,h2,ry⟩
  ·rw[if_neg e,if_neg (fun z=>e (h1.trans z))]; exact⟨h1,h2,h3⟩
theorem KT.put {H:Hp} {kvs:List (List Key × V)} {xs:List (List Key × Addr × Value)} (r:KT H kvs xs) (k:List Key) {b:Addr} {y:V} {u:Value} (hb:H b=some (.tup (k.map kV))) (ry:RelV y u) :
  KT H (putK kvs k y) (storedH xs k b u):=by
 have e:(kvs.any fun kv=>decide (kv.1=k))=(atKey xs k).isSome:=by
  rw[jz,(r.val k).mJ,Option.isSome_map]
 unfold putK storedH
 rw[e]
 by_cases q:(atKey xs k).isSome=true
 ·rw[if_pos q,if_pos q]; exact r.repl k ry
 ·rw[if_neg q,if_neg q]; exact Paired.snoc r ⟨rfl,hb,ry⟩
theorem KT.keeps {H H':Hp} {kvs:List (List Key × V)} {xs:List (List Key × Addr × Value)} (r:KT H kvs xs) (ht:∀ b ys,H b=some (.tup ys)->H' b=some (.tup ys)):KT H' kvs xs :=
 Paired.Nk r fun _ _ z=>⟨z.1,ht _ _ z.2.1,z.2.2⟩
section
variable {P:Qt} {w:QF} {H:Hp} {h:Q7} {a:Addr}
theorem Le {u:HO} (ok:HOk P w H h) (e:Rd H a u):dJ P w H h a u:=e.ok ok
theorem Fo {kvs:List (Key × V)} (ok:HOk P w H h) (e:Rd H a (.dK kvs)):kvs.length<=sizeLine/\(a == Vc)=false/\∃ vs,KV kvs vs/\h.DictOf (dW P w) a vs :=
 show dJ P w H h a (.dK kvs) from Le ok e
theorem M9 {kvs:List (Key × V)} (ok:HOk P w H h) (e:H a=some (.dK kvs)):kvs.length<=sizeLine/\(a == Vc)=false/\∃ vs,KV kvs vs/\h.DictOf (dW P w) a vs:=Fo ok (.inl e)
theorem sO {ks:List Key} (ok:HOk P w H h) (e:H a=some (.tup (ks.map kV))):(Xw (dW P w)).is h ks a:=by
 obtain⟨_,its,r,o,h1,h2,n,h3⟩:=(show dJ P w H h a (.tup (ks.map kV)) from ok a _ e)
 exact⟨o,its.toArray,n,h1,h2,h3,by simpa using sX r⟩
theorem DX {kvs:List (List Key × V)} (ok:HOk P w H h) (e:Rd H a (.dT kvs)):kvs.length<=sizeLine/\(a == Vc)=false ∧
  ∃ xs,KT H kvs xs/\h.DictOfH (Xw (dW P w)) a xs:=by
 obtain⟨z,y,xs,r,o,es,ep,h1,h2,h3,h4,h5⟩:=(show dJ P w H h a (.dT kvs) from Le ok e)
 refine⟨z,y,xs,r,o,es,ep,h1,h2,h3,h4,fun x hx=>?_,h5⟩
 have all:∀ {l:List (List Key × V)} {m:List (List Key × Addr × Value)},KT H l m->∀ x∈m,(Xw (dW P w)).is h x.1 x.2.1:=by
  intro l m q
  induction q with
  | nil=>intro x hx; exact nomatch hx
  | @cons p q ps qs hq t ih =>
   intro x hx
   rcases List.mem_cons.mp hx with e | hx
   ·subst e
    exact sO ok (by rw[← hq.1]; exact hq.2.1)
   ·exact ih x hx
 exact all r x hx
theorem Kr {kvs:List (List Key × V)} (ok:HOk P w H h) (e:H a=some (.dT kvs)):kvs.length<=sizeLine/\(a == Vc)=false ∧
  ∃ xs,KT H kvs xs/\h.DictOfH (Xw (dW P w)) a xs:=DX ok (.inl e)
end
def Du (H:Hp) (a:Addr) (y:V) (r:Option V):Prop :=
 (∃ kvs k,Rd H a (.dK kvs)/\y=kV k/\r=iK kvs k)∨∃ kvs k b,Rd H a (.dT kvs)/\y = .ref b/\H b=some (.tup (k.map kV))/\r=iK kvs k
def Kh (H:Hp) (a:Addr) (y v:V) (H':Hp):Prop :=
 (∃ kvs k,H a=some (.dK kvs)/\y=kV k/\kvs.length < sizeLine/\H'=upd H a (.dK (putK kvs k v))) ∨
 ∃ kvs k b,H a=some (.dT kvs)/\y = .ref b/\H b=some (.tup (k.map kV))/\kvs.length < sizeLine/\H'=upd H a (.dT (putK kvs k v))
theorem Du.t {H:Hp} {a b:Addr} {kvs:List (List Key × V)} {k:List Key} (e:H a=some (.dT kvs)) (eb:H b=some (.tup (k.map kV))):Du H a (.ref b) (iK kvs k):=.inr ⟨kvs,k,b,.inl e,rfl,eb,rfl⟩
theorem Kh.t {H:Hp} {a b:Addr} {kvs:List (List Key × V)} {k:List Key} {v:V} (e:H a=some (.dT kvs)) (eb:H b=some (.tup (k.map kV))) (hl:kvs.length < sizeLine) :
  Kh H a (.ref b) v (upd H a (.dT (putK kvs k v))):=.inr ⟨kvs,k,b,e,rfl,eb,hl,rfl⟩
section
variable {X:Cx} {pins:List (Addr × Tq)} {σ:St} {H:Hp} {s:Pu} {a:Addr} {y v:V} {u r:Value} {o:Option V} {A:QG} {E:Value->Pu->Prop}
theorem Inv.big (I:Inv X pins σ H s):Vc < s.heap.objs.size:=by
 have h:Qy < s.heap.objs.size:=(I.mod.glob.keeps I.bk).lt
 exact Nat.lt_trans (by decide) h
theorem Dg {Q:Value->Pu->Prop} (hu:A.units+1 < cLine) (I:Inv X pins σ H s) (g:Du H a y (some v)) (ry:RelV y u) (h:∀ w' s',Inv X pins σ H s'->RelV v w'->Q w' s') :
  PX (Qo X.prog X.w) A (WW (.ref a) u) Q E s:=by
 rcases g with⟨kvs,k,e,ey,l⟩ | ⟨kvs,k,b,e,ey,eb,l⟩
 ·subst ey
  obtain⟨z,hd,vs,rel,dd⟩:=Fo I.hok e
  obtain⟨w',hw,rw'⟩:=zr.some_of (v:=v) (o:=Xd vs k) (by rw[l]; exact rel.val k)
  exact wpAny_getItem_of (DK ry) dd.mapOf hw (h w' _ (I.tok _) rw')
 ·subst ey
  cases (show u=QK b from ry)
  obtain⟨z,hd,xs,rel,dd⟩:=DX I.hok e
  obtain⟨w',hw,rw'⟩:=zr.some_of (v:=v) (o:=(atKey xs k).map (·.2)) (by rw[l]; exact rel.val k)
  obtain⟨p,hp,hp2⟩:=Option.map_eq_some_iff.mp hw
  refine wpAny_getItem_heap (W5 hu) (sO I.hok eb) dd hp ?_
  rw[hp2]
  exact h w' _ (I.tok _) rw'
theorem JN {Q:Value->Pu->Prop} (hu:A.units+1 < cLine) (I:Inv X pins σ H s) (g:Du H a y o) (ry:RelV y u) (h:∀ s',Inv X pins σ H s'->Q (.bool (!o.isSome)) s') :
  PX (Qo X.prog X.w) A (S7 .NotIn u (.ref a)) Q E s:=by
 rcases g with⟨kvs,k,e,ey,l⟩ | ⟨kvs,k,b,e,ey,eb,l⟩
 ·subst ey
  obtain⟨z,hd,vs,rel,dd⟩:=Fo I.hok e
  refine wpAny_notIn_of (DK ry) hd dd.mapOf ?_
  rw[← (rel.val k).mJ,← l]
  exact h _ (I.tok _)
 ·subst ey
  cases (show u=QK b from ry)
  obtain⟨z,hd,xs,rel,dd⟩:=DX I.hok e
  refine wpAny_notIn_heap (W5 hu) (sO I.hok eb) hd dd ?_
  have q:=(rel.val k).mJ
  rw[Option.isSome_map] at q
  rw[← q,← l]
  exact h _ (I.tok _)
theorem vo {h':Q7} {t':Nat} {ob:HO} (I:Inv X pins σ H s) (mu:Mut (H a)) (hs:R9 a s.heap h') (he:∃ q,h'.get? a=some q) (new:dJ X.prog X.w (upd H a ob) h' a ob) :
  Inv X pins σ (upd H a ob) { s with heap:=h',toks:=t' } :=
 I.write (x:=a) (e:=a) mu (.inl rfl) (fun b q hb z=>(hs.2 b hb).trans z) he new
theorem Kv {P:Qt} {w:QF} {H':Hp} {h':Q7} {kvs:List (Key × V)} {vs:List (Key × Value)} (z:kvs.length<=sizeLine) (hd:(a == Vc)=false) (rel:KV kvs vs) (dd:h'.DictOf (dW P w) a vs) :
  dJ P w H' h' a (.dK kvs):=⟨z,hd,vs,rel,dd⟩
theorem Ab {H':Hp} {Q:Unit->Pu->Prop} (hu:A.units+1 < cLine) (I:Inv X pins σ H s) (g:Kh H a y v H') (ry:RelV y u) (rv:RelV v r) (h:∀ s',Inv X pins σ H' s'->Q () s') :
  PX (Qo X.prog X.w) A (setItem (.ref a) u r) Q E s:=by
 rcases g with⟨kvs,k,e,ey,l,eH⟩ | ⟨kvs,k,b,e,ey,eb,l,eH⟩
 ·subst ey eH
  obtain⟨z,hd,vs,rel,dd⟩:=M9 I.hok e
  have hz:vs.length<=sizeLine:=by rw[← rel.length]; exact z
  have hl:(putK kvs k v).length<=sizeLine:=by have:=iZ kvs k v; lia
  refine wpAny_setItem_pairs (hsz:=hz) (DK ry) dd fun h' dd' hs=>h _ ?_
  have he:∃ q,h'.get? a=some q:=let ⟨q,_,_,hq,_⟩:=dd'; ⟨q,hq⟩
  exact vo I (by rw[e]; exact Uu) hs he (Kv hl hd (rel.put k rv) dd')
 ·subst ey eH
  cases (show u=QK b from ry)
  obtain⟨z,hd,xs,rel,dd⟩:=Kr I.hok e
  have hz:xs.length<=sizeLine:=by rw[← W2 rel]; exact z
  have hl:(putK kvs k v).length<=sizeLine:=by have:=iZ kvs k v; lia
  refine wpAny_setItem_heap (hsz:=hz) (W5 hu) (sO I.hok eb) dd fun h' dd' hs=>h _ ?_
  obtain⟨q,es,ep,hq,h2,h3,h4,_,h5⟩:=dd'
  refine vo I (by rw[e]; exact Uu) hs ⟨q,hq⟩ ⟨hl,hd,_,(rel.put k eb rv).keeps fun c ys ec=>?_,q,es,ep,hq,h2,h3,h4,h5⟩
  rw[bx (LR ec e (fun z=>nomatch z))]
  exact ec
end
section
variable {X:Cx} {pins:List (Addr × Tq)} {σ:St} {H:Hp} {s:Pu} {a:Addr} {kvs:List (Key × V)} {k:Key} {u:Value} {A:QG} {E:Value->Pu->Prop}
end
def Om (i:Expr):Prop:=∀ ov iv,XQ i false ov iv=operate [ov,iv] (WW ov iv)
theorem Jq {prog:Qt} {w:QF} {A:QG} {E:Value->Pu->Prop} {s:Pu} {env:Env} {value slice:Expr} {pos:Vk} {T id:String} {Q:Value->Pu->Prop}
  (hl:typeLookup (.type T) "__getitem__" = pure (some (.builtin id))) (hs:Om slice)
  (h:PX (Qo prog w) A (S6 value env) (fun o s₁=>PX (Qo prog w) A (S6 slice env) (fun i s₂=>s₂.TypeIs o T/\PX (Qo prog w) A (WW o i) Q E s₂) E s₁) E s) :
  PX (Qo prog w) A (S6 (.Subscript value slice pos) env) Q E s:=by
 refine Subscript_ (Sv h (fun o s₁ h₁=>Sv h₁ (fun i s₂ h₂=>?_) fun _ _ x=>x) fun _ _ x=>x)
 obtain⟨hT,h₂⟩:=h₂
 unfold subscriptTail
 refine Pn ?_
 rw[getitemInPython_of_ne hT.not_modules]
 refine Pn (Vx hT hl ?_)
 have fin:PX (Qo prog w) A (XQ slice false o i) (fun r s₃=>PX (Qo prog w) A (letTemporaryGo value o r >>= fun _=>pure r) Q E s₃) E s₂:=by
  rw[hs o i]
  exact wpAny_operating (Sv h₂ (fun r s₃ h₃=>Pn (wpAny_letTemporaryGo (Py h₃))) fun _ _ x=>x)
 first
  | exact Py (Pn fin)
  | exact Pn (Py (Pn fin))
  | exact Pn fin
theorem uV {X:Cx} {pins:List (Addr × Tq)} {σ:St} {H:Hp} {s:Pu} {a:Addr} {y:V} {o:Option V} (I:Inv X pins σ H s) (g:Du H a y o):s.TypeIs (.ref a) "dict":=by
 rcases g with⟨kvs,k,e,_,_⟩ | ⟨kvs,k,b,e,_,_,_⟩
 ·obtain⟨_,_,vs,_,dd⟩:=Fo I.hok e
  exact dd.typeIs
 ·obtain⟨_,_,xs,_,dd⟩:=DX I.hok e
  exact dd.typeIs
def Nv (td ty:TE):TE:=fun σ H Q=>td σ H fun x H1=>ty σ H1 fun y H2=>∃ a v,x = .ref a/\Du H2 a y (some v)/\Q v H2
def Js (ty td:TE):TE:=fun σ H Q=>ty σ H fun y H1=>td σ H1 fun x H2=>∃ a o,x = .ref a/\Du H2 a y o/\Q (.bl (!o.isSome)) H2
def NP (td ty tv:TE):TS:=fun D σ H=>tv σ H fun v H1=>td σ H1 fun x H2=>ty σ H2 fun y H3=>∃ a H4,x = .ref a/\Kh H3 a y v H4/\D.nx σ H4
section
variable {X:Cx} {o i e value:Expr} {pos pos' tpos:Vk} {td ty tv:TE}
theorem JX (hu:X.A.units+1 < cLine) (ho:PE X o td) (hi:PE X i ty) (hs:Om i):PE X (.Subscript o i pos) (Nv td ty):=by
 intro pins s σ H Q I h
 refine Jq PySem.F.slot_dict_getitem.lookup hs (thn (ho pins s σ H _ I h) fun u s1 ⟨x,H1,I1,rx,q1⟩=>thn (hi pins s1 σ H1 _ I1 q1) fun iv s2 ⟨y,H2,I2,ry,a,v,ex,g,q2⟩=>?_)
 subst ex
 obtain rfl:u=QK a:=rx
 exact⟨uV I2 g,Dg hu I2 g ry fun w' s3 I3 rw'=>⟨v,H2,I3,rw',q2⟩⟩
theorem rn (hu:X.A.units+1 < cLine) (hi:PE X i ty) (ho:PE X o td):PC X .NotIn i o (Js ty td):=by
 intro pins s σ H Q I h
 refine thn (hi pins s σ H _ I h) fun iv s1 ⟨y,H1,I1,ry,q1⟩=>thn (ho pins s1 σ H1 _ I1 q1) fun u s2 ⟨x,H2,I2,rx,a,ov,ex,g,q2⟩=>?_
 subst ex
 obtain rfl:u=QK a:=rx
 exact JN hu I2 g ry fun s3 I3=>⟨.bl (!ov.isSome),H2,I3,rfl,q2⟩
theorem zP (hu:X.A.units+1 < cLine) (ho:PE X o td) (hi:PE X i ty) (hv:PE X value tv) (hs:swapsWith value (some (.Subscript o i pos')) pos.line X.env=pure false) :
  PS X (.Assign [.Subscript o i pos'] value pos) (NP td ty tv):=by
 intro pins s σ H D I h
 refine wpAny_Assign_Subscript (thn (hv pins s σ H _ I h) fun r s1 ⟨v,H1,I1,rv,q1⟩=>thn (ho pins s1 σ H1 _ I1 q1) fun u s2 ⟨x,H2,I2,rx,q2⟩=>thn (hi pins s2 σ H2 _ I2 q2) fun iv s3 ⟨y,H3,I3,ry,a,H4,ex,g,q3⟩=>?_) hs
 subst ex
 obtain rfl:u=QK a:=rx
 exact Ab hu I3 g ry rv fun s4 I4=>⟨σ,H4,I4,q3⟩
end
theorem xK {P:Qt} {w:QF} {H:Hp} (h:Q7) (hb:Vc < h.objs.size):dJ P w H (h.push { cls:=.type "dict",data:=.dict #[] }) h.objs.size (.dT []) :=
 ⟨Qw _,beq_eq_false_iff_ne.mpr (Tu (Qq hb)),[],.nil,_,#[],0,PB _ rfl,⟨rfl,rfl,rfl⟩,rfl,rfl,List.nodup_nil⟩
def MK:TE:=fun _ H Q=>∀ p,H p=none->Q (.ref p) (upd H p (.dT []))
section
variable {X:Cx} {pos:Vk}
theorem Ey:PE X (.Dict [] [] pos) MK:=fun pins s σ H Q I h =>
 wpAny_Dict_empty ⟨.ref s.heap.objs.size,_,I.laid (a:=s.heap.objs.size) (o:=.dT []) (t':=s.toks) (fun _ _ q=>Pr _ q) (PK _) (xK s.heap I.big),rfl,h _ (I.hok.fresh (PK _))⟩
end
def zM:List (TE × TE)->St->Hp->(List (V × V)->Hp->Prop)->Prop
 | [],_,H,Q=>Q [] H
 | (tk,tv)::r,σ,H,Q=>tk σ H fun x H1=>tv σ H1 fun y H2=>zM r σ H2 fun ps H3=>Q ((x,y)::ps) H3
abbrev VV:List (V × V)->List (Value × Value)->Prop:=Paired fun p q=>RelV p.1 q.1/\RelV p.2 q.2
def PPs (X:Cx) (pos:Vk) (keys:List (Option Expr)) (values:List Expr) (trs:List (TE × TE)):Prop :=
 ∀ (pins:List (Addr × Tq)) (s:Pu) (σ:St) (H:Hp) (Q:List (V × V)->Hp->Prop),Inv X pins σ H s->zM trs σ H Q →
  PX (Qo X.prog X.w) X.A (evalPairs (pairTrees keys values X.env pos)) (fun vs s'=>∃ ps H',Inv X pins σ H' s'/\VV ps vs/\Q ps H') X.xe s
theorem Ip {X:Cx} {pos:Vk}:PPs X pos [] [] []:=fun pins s σ H Q I h=>pairTrees_nil_walk ⟨[],H,I,.nil,h⟩
theorem xG {X:Cx} {pos:Vk} {k v:Expr} {ks:List (Option Expr)} {vs:List Expr} {tk tv:TE} {trs:List (TE × TE)} (hk:PE X k tk) (hv:PE X v tv) (hr:PPs X pos ks vs trs) :
  PPs X pos (some k::ks) (v::vs) ((tk,tv)::trs):=fun pins s σ H Q I h =>
 pairTrees_cons_walk (thn (hk pins s σ H _ I h) fun u s1 ⟨x,H1,I1,rx,q1⟩=>thn (hv pins s1 σ H1 _ I1 q1) fun w2 s2 ⟨y,H2,I2,ry,q2⟩ =>
  thn (hr pins s2 σ H2 _ I2 q2) fun ws s3 ⟨ps,H3,I3,rel,q3⟩=>⟨(x,y)::ps,H3,I3,.cons ⟨rx,ry⟩ rel,q3⟩)
section
variable {X:Cx} {pins:List (Addr × Tq)} {σ:St} {H:Hp} {s:Pu} {a:Addr} {y d:V} {u r:Value} {o:Option V} {A:QG} {E:Value->Pu->Prop}
end
section
variable {X:Cx} {o e f:Expr} {apos cpos:Vk} {td ty tx:TE}
end
section
variable {X:Cx} {pins:List (Addr × Tq)} {σ:St} {H:Hp} {s:Pu} {a:Addr} {kvs:List (Key × V)} {A:QG} {E:Value->Pu->Prop}
end
section
variable {X:Cx} {pins:List (Addr × Tq)} {σ:St} {H:Hp} {s:Pu} {a:Addr} {y:V} {u:Value} {A:QG} {E:Value->Pu->Prop}
end
end L2
namespace L2
open PySem PySem.Spec PyProof.Rows
theorem oG.rY {k:Nat} {A:QG} (r:oG k A):A.units+1 < cLine:=by have:=r.un; lia
section
variable {X:Cx} {pins:List (Addr × Tq)} {σ:St} {H:Hp} {s:Pu} {a b:Addr} {v:V} {r:Value} {A:QG} {E:Value->Pu->Prop}
theorem Cm {kvs:List (List Key × V)} {k:List Key} {Q:Unit->Pu->Prop} (hu:A.units < cLine) (I:Inv X pins σ H s) (e:H a=some (.dT kvs)) (eb:H b=some (.tup (k.map kV))) (l:kvs.length < sizeLine) (rv:RelV v r) (h:∀ s',Inv X pins σ (upd H a (.dT (putK kvs k v))) s'->Q () s') :
  PX (Qo X.prog X.w) A (dictSet a (.ref b) r) Q E s:=by
 obtain⟨z,hd,xs,rel,dd⟩:=Kr I.hok e
 have hz:xs.length<=sizeLine:=by rw[← W2 rel]; exact z
 have hl:(putK kvs k v).length<=sizeLine:=by have:=iZ kvs k v; lia
 refine wpAny_dictSet_heap (hsz:=hz) hu (sO I.hok eb) dd fun h' dd' hs=>h _ ?_
 obtain⟨q,es,ep,hq,h2,h3,h4,_,h5⟩:=dd'
 refine vo I (by rw[e]; exact Uu) hs ⟨q,hq⟩ ⟨hl,hd,_,(rel.put k eb rv).keeps fun c ys ec=>?_,q,es,ep,hq,h2,h3,h4,h5⟩
 rw[bx (LR ec e (fun z=>nomatch z))]
 exact ec
end
def Be (p:Addr):List (V × V)->Hp->(Hp->Prop)->Prop
 | [],H,Q=>Q H
 | (x,y)::r,H,Q=>∃ kvs k b,H p=some (.dT kvs)/\x = .ref b/\H b=some (.tup (k.map kV))/\kvs.length < sizeLine/\Be p r (upd H p (.dT (putK kvs k y))) Q
theorem Ln {X:Cx} {pins:List (Addr × Tq)} {σ:St} {p:Addr} {A:QG} {E:Value->Pu->Prop} (hu:A.units < cLine) {Z:Hp->Prop} {Q:PUnit->Pu->Prop} (hq:∀ H s,Inv X pins σ H s->Z H->Q PUnit.unit s) :
  ∀ {ps:List (V × V)} {vs:List (Value × Value)} {H:Hp} {s:Pu},VV ps vs->Inv X pins σ H s->Be p ps H Z->PX (Qo X.prog X.w) A (storeAll p vs) Q E s:=by
 intro ps vs H s r
 induction r generalizing H s with
 | nil =>
  intro I t
  unfold storeAll
  rw[Vh]
  exact Py (hq _ _ I t)
 | @cons x y xs ys h t ih =>
  intro I q
  obtain⟨x1,x2⟩:=x
  obtain⟨y1,y2⟩:=y
  obtain⟨kvs,k,b,e,ex,eb,l,q⟩:=q
  subst ex
  cases (show y1=QK b from h.1)
  unfold storeAll
  rw[U8]
  exact Pn (Pn (Cm hu I e eb l h.2 fun s' I'=>Py (ih I' q)))
def Ky (trs:List (TE × TE)):TE:=fun σ H Q=>∀ p,H p=none->zM trs σ (upd H p (.dT [])) fun ps H2=>Be p ps H2 fun H3=>Q (.ref p) H3
theorem DY {X:Cx} {pos:Vk} {keys:List (Option Expr)} {values:List Expr} {trs:List (TE × TE)} (hu:X.A.units < cLine) (h:PPs X pos keys values trs) (hall:keys.all (·.isSome)=true) (hl:keys.length=values.length) (h0:keys≠[])
  (h15:keys.length<=15):PE X (.Dict keys values pos) (Ky trs):=by
 intro pins s σ H Q I q
 have hn:=I.hok.fresh (PK s.heap.objs.size)
 have I1:=I.laid (a:=s.heap.objs.size) (o:=.dT []) (h':=s.heap.push { cls:=.type "dict",data:=.dict #[] }) (t':=s.toks) (fun _ _ q=>Pr _ q) (PK _) (xK s.heap I.big)
 refine wpAny_Dict_any hall hl h0 h15 (thn (h pins _ σ _ _ I1 (q _ hn)) fun ws s2 ⟨ps,H2,I2,rel,q2⟩=>?_)
 exact Ln hu (fun H3 s3 I3 q3=>⟨.ref s.heap.objs.size,H3,I3,rfl,q3⟩) rel I2 q2
end L2
namespace L2
open PySem PySem.Spec PyProof.Rows PySem.W
section
variable {n:Nat} {o:Nat->Nat->Bool} {cmp:Nat->Nat->(Bool->Pu->Prop)->Pu->Prop} {s:Pu}
def d7 (n:Nat) (p:Array Nat):Prop:=p.toList.Perm (PL n)
theorem d7.size {p:Array Nat} (h:d7 n p):p.size=n:=by
 have:=h.length_eq
 rw[Qn] at this
 exact this
theorem d7.lt {p:Array Nat} (h:d7 n p) {i:Nat} (hi:i < n):p.getD i 0 < n:=by
 have hs:i < p.size:=by rw[h.size]; exact hi
 have:p.getD i 0∈p.toList:=by
  simp [Array.getD,hs]
 exact List.mem_range.mp (h.mem_iff.mp this)
theorem d7.ne {p:Array Nat} (h:d7 n p) {i j:Nat} (hi:i < n) (hj:j < n) (e:i≠j):p.getD i 0≠p.getD j 0:=by
 have nd:p.toList.Nodup:=h.nodup_iff.mpr List.nodup_range
 have hs:i < p.toList.length:=by rw[Qs,h.size]; exact hi
 have hs':j < p.toList.length:=by rw[Qs,h.size]; exact hj
 intro z
 have a1:p.getD i 0=p.toList[i]:=by simp [Array.getD,show i < p.size by simpa using hs]
 have a2:p.getD j 0=p.toList[j]:=by simp [Array.getD,show j < p.size by simpa using hs']
 rw[a1,a2] at z
 exact e ((Wo nd).mp z)
def UpO (o:Nat->Nat->Bool) (p:Array Nat) (k:Nat):Prop:=∀ i j,i < j->j < k->o (p.getD i 0) (p.getD j 0)=true
def DnO (o:Nat->Nat->Bool) (p:Array Nat) (k:Nat):Prop:=∀ i j,i < j->j < k->o (p.getD j 0) (p.getD i 0)=true
variable (tr:∀ i j k,i < n->j < n->k < n->o i j=true->o j k=true->o i k=true) (tot:∀ i j,i < n->j < n->i≠j->o i j=false->o j i=true)
variable (hc:∀ i j,i < n->j < n->∀ C:Bool->Pu->Prop,C (o i j) s->cmp i j C s)
include tr in
theorem UpO.succ {p:Array Nat} (hp:d7 n p) {k:Nat} (h1:1<=k) (hk:k < n) (h:UpO o p k) (e:o (p.getD (k - 1) 0) (p.getD k 0)=true):UpO o p (k+1):=by
 intro i j hij hj
 rcases R8 j k with h' | h'
 ·exact h i j hij h'
 ·have:j=k:=by lia
  subst this
  rcases R8 i (j - 1) with h2 | h2
  ·exact tr _ _ _ (hp.lt (by lia)) (hp.lt (by lia)) (hp.lt hk) (h i (j - 1) h2 (by lia)) e
  ·have:i=j - 1:=by lia
   subst this
   exact e
include tr in
theorem DnO.succ {p:Array Nat} (hp:d7 n p) {k:Nat} (h1:1<=k) (hk:k < n) (h:DnO o p k) (e:o (p.getD k 0) (p.getD (k - 1) 0)=true):DnO o p (k+1):=by
 intro i j hij hj
 rcases R8 j k with h' | h'
 ·exact h i j hij h'
 ·have:j=k:=by lia
  subst this
  rcases R8 i (j - 1) with h2 | h2
  ·exact tr _ _ _ (hp.lt hk) (hp.lt (by lia)) (hp.lt (by lia)) e (h i (j - 1) h2 (by lia))
  ·have:i=j - 1:=by lia
   subst this
   exact e
include tr tot hc in
theorem vf {p:Array Nat} (hp:d7 n p) {Q:Nat->Pu->Prop}:∀ (f k:Nat),1<=k->k+f<=n->UpO o p k->(∀ m,k<=m->m<=k+f->UpO o p m->(m=k+f∨o (p.getD m 0) (p.getD (m - 1) 0)=true)->Q m s)->(kas_asc p f k).kasWp cmp Q s
 | 0,k,_,_,hu,h=>h k (PK _) (PK _) hu (.inl rfl)
 | f+1,k,h1,hk,hu,h=>by
  show cmp _ _ _ s
  refine hc _ _ (hp.lt (by lia)) (hp.lt (by lia)) _ ?_
  cases e:o (p.getD k 0) (p.getD (k - 1) 0) with
  | true =>
   show Tt cmp (if true=true then _ else _) Q s
   rw[if_pos rfl]
   exact h k (PK _) (by lia) hu (.inr e)
  | false =>
   show Tt cmp (if false=true then _ else _) Q s
   rw[if_neg PQ]
   refine vf hp f (k+1) (by lia) (by lia) (hu.succ tr hp h1 (by lia) (tot _ _ (hp.lt (by lia)) (hp.lt (by lia)) (hp.ne (by lia) (by lia) (by lia)) e)) fun m h2 h3 h4 h5=>h m (by lia) (by lia) h4 ?_
   rcases h5 with z | z
   ·exact .inl (by lia)
   ·exact .inr z
include tr tot hc in
theorem wL {p:Array Nat} (hp:d7 n p) {Q:Array Nat × Nat × Nat->Pu->Prop}:∀ (f k:Nat),1<=k->k+f<=n->DnO o p k->(∀ m,k<=m->m<=k+f->DnO o p m->Q (p,m,0) s)->(kas_desc f p k 0).kasWp cmp Q s
 | 0,k,_,_,hu,h=>h k (PK _) (PK _) hu
 | f+1,k,h1,hk,hu,h=>by
  show cmp _ _ _ s
  refine hc _ _ (hp.lt (by lia)) (hp.lt (by lia)) _ ?_
  cases e:o (p.getD k 0) (p.getD (k - 1) 0) with
  | true =>
   show Tt cmp (if true=true then _ else _) Q s
   rw[if_pos rfl,if_neg (by decide)]
   exact wL hp f (k+1) (by lia) (by lia) (hu.succ tr hp h1 (by lia) e) fun m h2 h3 h4=>h m (by lia) (by lia) h4
  | false =>
   show Tt cmp (if false=true then _ else _) Q s
   rw[if_neg PQ]
   show cmp _ _ _ s
   refine hc _ _ (hp.lt (by lia)) (hp.lt (by lia)) _ ?_
   rw[tot _ _ (hp.lt (by lia)) (hp.lt (by lia)) (hp.ne (by lia) (by lia) (by lia)) e]
   show Tt cmp (if true=true then _ else _) Q s
   rw[if_pos rfl]
   exact h k (PK _) (by lia) hu
theorem nP {p q:Array Nat} {i j:Nat} (h:p[i]? = q[j]?):p.getD i 0=q.getD j 0:=by
 rw[RM,RM,h]
theorem DW {p:Array Nat} (hp:d7 n p) (k:Nat):d7 n (kas_rev p 0 k):=by
 have:=mirror_perm p 0 k ((k - 0) / 2)
 exact (Array.perm_iff_toList_perm.mp this).trans hp
theorem GQ {p:Array Nat} {k:Nat} (hk:k<=p.size) (i:Nat):(kas_rev p 0 k).getD i 0=if i < k then p.getD (k - 1 - i) 0 else p.getD i 0:=by
 have e:=getElem?_mirror_all (xs:=p) (i:=0) hk i
 by_cases h:i < k
 ·rw[if_pos ⟨Qw _,h⟩] at e
  rw[if_pos h]
  exact nP (e.trans (by rw[Nat.zero_add]))
 ·rw[if_neg (fun z=>h z.2)] at e
  rw[if_neg h]
  exact nP e
theorem Mg {p:Array Nat} (hp:d7 n p) {k:Nat} (hk:k<=n) (h:DnO o p k):UpO o (kas_rev p 0 k) k:=by
 intro i j hij hj
 rw[GQ (by rw[hp.size]; exact hk),GQ (by rw[hp.size]; exact hk),if_pos (by lia),if_pos hj]
 exact h (k - 1 - j) (k - 1 - i) (by lia) (by lia)
include tr tot hc in
theorem Eg {p:Array Nat} (hp:d7 n p) {k:Nat} (h1:1<=k) (hk:k<=n) (h:DnO o p k) {Q:Nat × Array Nat->Pu->Prop} (hq:∀ m p',d7 n p'->1<=m->m<=n->UpO o p' m->Q (m,p') s):(kas_tail3 k n p).kasWp cmp Q s:=by
 unfold kas_tail3
 rw[VD]
 have hp':=DW hp k
 exact vf tr tot hc hp' (n - k) k h1 (by lia) (Mg hp hk h) fun m h2 h3 h4 _=>hq m _ hp' (by lia) (by lia) h4
include tr tot hc in
theorem zT (h2:2<=n) {p:Array Nat} (hp:d7 n p) {Q:Nat × Array Nat->Pu->Prop} (hq:∀ m p',d7 n p'->1<=m->m<=n->UpO o p' m->Q (m,p') s):(kas_count n p).kasWp cmp Q s:=by
 unfold kas_count
 rw[VD]
 refine vf tr tot hc hp (n - 1) 1 (PK _) (by lia) (fun i j hij hj=>by lia) fun m h3 h4 h5 h6=>?_
 show Tt cmp (if (m == n)=true then _ else _) Q s
 by_cases e:(m == n)=true
 ·rw[if_pos e]
  exact hq m p hp h3 (by lia) h5
 ·rw[if_neg e]
  have mn:m < n:=by
   have:¬ m=n:=by simpa using e
   lia
  by_cases g:m > 1
  ·rw[if_pos g]
   show cmp _ _ _ s
   refine hc _ _ (hp.lt (by lia)) (hp.lt (by lia)) _ ?_
   rw[h5 0 (m - 1) (by lia) (by lia)]
   show Tt cmp (if true=true then _ else _) Q s
   rw[if_pos rfl]
   exact hq m p hp h3 (by lia) h5
  ·rw[if_neg g]
   have m1:m=1:=by lia
   subst m1
   have z:o (p.getD 1 0) (p.getD 0 0)=true:=by
    rcases h6 with z | z
    ·lia
    ·exact z
   unfold kas_descPart
   rw[VD]
   refine wL tr tot hc hp (n - 2) 2 (by lia) (by lia) (fun i j hij hj=>?_) fun m h7 h8 h9=>?_
   ·have a1:i=0:=by lia
    have a2:j=1:=by lia
    subst a1 a2
    exact z
   ·show Tt cmp (if 0 > 0 then _ else _) Q s
    rw[if_neg (by decide)]
    exact Eg tr tot hc hp (by lia) (by lia) h9 hq
include tr tot hc in
theorem mQ {p:Array Nat} (hp:d7 n p) {k:Nat} (hk:k < n) (hu:UpO o p k) {Q:Nat->Pu->Prop} (hq:∀ l,l<=k->(∀ i < l,o (p.getD i 0) (p.getD k 0)=true)->(∀ i,l<=i->i < k->o (p.getD k 0) (p.getD i 0)=true)->Q l s) :
  ∀ (f l r:Nat),l<=r->r<=k->r<=l+f->(∀ i < l,o (p.getD i 0) (p.getD k 0)=true)->(∀ i,r<=i->i < k->o (p.getD k 0) (p.getD i 0)=true)->(kas_place p k f l r).kasWp cmp Q s
 | 0,l,r,h1,h2,h3,a,b=>hq l (by lia) a fun i h4 h5=>b i (by lia) h5
 | f+1,l,r,h1,h2,h3,a,b=>by
  unfold kas_place
  by_cases g:l ≥ r
  ·rw[if_pos g]
   exact hq l (by lia) a fun i h4 h5=>b i (by lia) h5
  ·rw[if_neg g]
   show cmp _ _ _ s
   have hm:(l+r) / 2 < r:=by lia
   have hm':l<=(l+r) / 2:=by lia
   generalize (l+r) / 2=md at *
   refine hc _ _ (hp.lt hk) (hp.lt (by lia)) _ ?_
   cases e:o (p.getD k 0) (p.getD md 0) with
   | true =>
    show Tt cmp (if true=true then _ else _) Q s
    rw[if_pos rfl]
    refine mQ hp hk hu hq f l md hm' (by lia) (by lia) a fun i h4 h5=>?_
    rcases R8 md i with h6 | h6
    ·exact tr _ _ _ (hp.lt hk) (hp.lt (by lia)) (hp.lt (by lia)) e (hu md i h6 h5)
    ·have:i=md:=by lia
     subst this
     exact e
   | false =>
    show Tt cmp (if false=true then _ else _) Q s
    rw[if_neg PQ]
    have e':=tot _ _ (hp.lt hk) (hp.lt (by lia)) (hp.ne hk (by lia) (by lia)) e
    refine mQ hp hk hu hq f (md+1) r hm h2 (by lia) (fun i h4=>?_) b
    rcases R8 i md with h6 | h6
    ·exact tr _ _ _ (hp.lt (by lia)) (hp.lt (by lia)) (hp.lt hk) (hu i md h6 (by lia)) e'
    ·have:i=md:=by lia
     subst this
     exact e'
theorem G5 {p:Array Nat} {k l:Nat} (hk:k < p.size) (hl:l<=k) (i:Nat):(bubble p k (k - l)).getD i 0=if i=l then p.getD k 0 else if l < i/\i<=k then p.getD (i - 1) 0 else p.getD i 0:=by
 have e:=getElem?_bubble hk (k - l) (by lia) i
 rw[show k - (k - l)=l by lia] at e
 by_cases h:i=l
 ·rw[if_pos h] at e ⊢
  exact nP e
 ·rw[if_neg h] at e ⊢
  by_cases h':l < i/\i<=k
  ·rw[if_pos h'] at e ⊢
   exact nP e
  ·rw[if_neg h'] at e ⊢
   exact nP e
include tr tot hc in
theorem Bl {Q:Array Nat->Pu->Prop} (hq:∀ p,d7 n p->UpO o p n->Q p s):∀ (f:Nat) (p:Array Nat) (k:Nat),d7 n p->k+f=n->UpO o p k->(kas_bin f p k).kasWp cmp Q s
 | 0,p,k,hp,e,hu=>hq p hp (by rw[← e]; exact hu)
 | f+1,p,k,hp,e,hu=>by
  unfold kas_bin
  rw[VD]
  refine mQ tr tot hc hp (by lia) hu (fun l hl a b=>?_) k 0 k (Qw _) (PK _) (by lia) (fun i h=>by lia) (fun i h1 h2=>by lia)
  have hpb:d7 n (bubble p k (k - l)):=(Array.perm_iff_toList_perm.mp (bubble_perm p k (k - l))).trans hp
  refine Bl hq f _ (k+1) hpb (by lia) fun i j hij hj=>?_
  have hks:k < p.size:=by rw[hp.size]; lia
  rw[G5 hks hl,G5 hks hl]
  by_cases h1:i=l
  ·rw[if_pos h1,if_neg (by lia),if_pos (by lia)]
   exact b (j - 1) (by lia) (by lia)
  ·rw[if_neg h1]
   by_cases h2:l < i/\i<=k
   ·rw[if_pos h2,if_neg (by lia),if_pos (by lia)]
    exact hu (i - 1) (j - 1) (by lia) (by lia)
   ·rw[if_neg h2]
    by_cases h3:j=l
    ·rw[if_pos h3]
     exact a i (by lia)
    ·rw[if_neg h3]
     by_cases h4:l < j/\j<=k
     ·rw[if_pos h4]
      rcases R8 i (j - 1) with h5 | h5
      ·exact hu i (j - 1) h5 (by lia)
      ·lia
     ·rw[if_neg h4]
      exact hu i j hij (by lia)
include tr tot hc in
theorem Er (h2:2<=n) {Q:Array Nat->Pu->Prop} (hq:∀ p,d7 n p->UpO o p n->Q p s):(kas_sort n).kasWp cmp Q s:=by
 unfold kas_sort
 rw[VD]
 refine zT tr tot hc h2 (p:=Xl (PL n)) (List.Perm.refl _) fun m p' hp' h1 hm hu=>?_
 by_cases g:m < n
 ·show Tt cmp (if m < n then _ else _) Q s
  rw[if_pos g,show max m 1=m by lia]
  exact Bl tr tot hc hq (n - m) p' m hp' (by lia) hu
 ·show Tt cmp (if m < n then _ else _) Q s
  rw[if_neg g]
  have:m=n:=by lia
  subst this
  exact hq p' hp' hu
end
end L2
namespace L2
open PySem PySem.Spec PyProof.Rows PySem.W PySem.SeqAt
open AutoSeq1 (wpAny_loadPart')
open MeetsSeq MeetsSeq2 MeetsSeq3
theorem ye (l b:Addr) (items items2:Array Value) (n n2:Nat) (dd dd2:Option Addr) (sl sl2:Array (Option Value)) {ns ms:List Int} (i1:Ra items.toList ns) (i2:Ra items2.toList ms) (k:Nat) :
  ∀ i:Nat,i<=ns.length->i<=ms.length->min ns.length ms.length - i=k->Meets (Sd.«list.__eq__.loop» ⟨[.ref l,.ref b,RB i,RB 0],[]⟩)
   (fun A R s=>s.heap.get? l=some { cls:=.type "list",dict:=dd,data:=.seq items n,slots:=sl }/\s.heap.get? b=some { cls:=.type "list",dict:=dd2,data:=.seq items2 n2,slots:=sl2 } ∧
    R (.ok (.ret (.bool (HT.lexLt (ns.drop i) (ms.drop i))))) s):=by
 have z1:items.size=ns.length:=by rw[← Qs]; exact i1.length
 have z2:items2.size=ms.length:=by rw[← Qs]; exact i2.length
 induction k with
 | zero =>
  intro i h1 h2 hk prog w A R s h
  obtain⟨hp,g,d,tk,os⟩:=s; obtain⟨hl,hb,h⟩:=h
  have lx:HT.lexLt (ns.drop i) (ms.drop i)=decide (items.size < items2.size):=by
   rw[z1,z2]
   by_cases a1:i < ns.length
   ·have a2:ms.length=i:=by lia
    rw[Vj (l:=ms) (by lia),Te a1,HT.oK,decide_eq_false (by lia)]
   ·rw[Vj (l:=ns) (by lia)]
    by_cases a2:i < ms.length
    ·rw[Te a2,HT.oM,decide_eq_true (by lia)]
    ·rw[Vj (l:=ms) (by lia),decide_eq_false (by lia)]
     rfl
  rw[lx] at h
  wp_walk using QJ hl,QJ hb
  by_cases a1:i < ns.length
  ·have hi2:items2[((i:Nat):Int).toNat]? = none:=by simp; lia
   have hi1:∃ v,items[((i:Nat):Int).toNat]? = some v:=⟨items[i],by rw[Qx]; exact Qm (by lia)⟩
   obtain⟨v,hi1⟩:=hi1
   rw[hi1,hi2]
   wp_walk using QJ hl,QJ hb
   exact h
  ·have hi1:items[((i:Nat):Int).toNat]? = none:=by simp; lia
   rw[hi1]
   wp_walk using QJ hl,QJ hb
   exact h
 | succ k ih =>
  intro i h1 h2 hk prog w A R s h
  obtain⟨hp,g,d,tk,os⟩:=s; obtain⟨hl,hb,h⟩:=h
  wp_walk using QJ hl,QJ hb
  have hlt:i < ns.length:=by lia
  have hlt2:i < ms.length:=by lia
  obtain⟨t1,e1⟩:=kO i1 (Px hlt)
  obtain⟨t2,e2⟩:=kO i2 (Px hlt2)
  have hi1:items[((i:Nat):Int).toNat]? = some (.int ns[i] t1):=by rw[Qx,← QR]; exact e1
  have hi2:items2[((i:Nat):Int).toNat]? = some (.int ms[i] t2):=by rw[Qx,← QR]; exact e2
  have hc:((i:Int)+1)=((i+1:Nat):Int):=by push_cast; rfl
  rw[Te hlt,Te hlt2,HT.iI] at h
  rw[hi1,hi2]
  refine Pn (wpAny_eqBool_int ?_)
  by_cases hb':ns[i]=ms[i]
  ·rw[if_pos hb'] at h
   rw[show (ns[i] == ms[i])=true by simp [hb']]
   wp_walk
   rw[hc]
   exact⟨Su plain_eq_loop _,RQ entry_eq_loop (by
    rw[Ry plain_eq_loop _]
    exact ih (i+1) (by lia) (by lia) (by lia) prog w A R _ ⟨hl,hb,h⟩)⟩
  ·rw[if_neg hb'] at h
   rw[show (ns[i] == ms[i])=false by simp [hb']]
   wp_walk using QJ hl,QJ hb
   rw[hi1,hi2]
   show PX _ _ (do let v ← richCompare .Lt (.int ns[i] t1) (.int ms[i] t2); ret v) _ _ _
   refine Pn (show PX _ _ (S7 .Lt (.int ns[i] t1) (.int ms[i] t2)) _ _ _ from PyProof.Rows.lt_int ?_)
   exact Py h
theorem yt (l b:Addr) (items items2:Array Value) (n n2:Nat) (dd dd2:Option Addr) (sl sl2:Array (Option Value)) {ns ms:List Int} (i1:Ra items.toList ns) (i2:Ra items2.toList ms) :
  Meets (Sd.«list.__lt__» ⟨[.ref l,.ref b],[]⟩)
   (fun A R s=>s.heap.get? l=some { cls:=.type "list",dict:=dd,data:=.seq items n,slots:=sl }/\s.heap.get? b=some { cls:=.type "list",dict:=dd2,data:=.seq items2 n2,slots:=sl2 } ∧
    R (.ok (.ret (.bool (HT.lexLt ns ms)))) s):=by
 intro prog w A R s h
 obtain⟨hp,g,d,tk,os⟩:=s; obtain⟨hl,hb,h⟩:=h
 have f3:=AutoSeq1.sub_list_list
 wp_walk using QJ hl,QJ hb
 exact⟨Su plain_eq_loop _,RQ entry_eq_loop (by
  rw[Ry plain_eq_loop _]
  exact ye l b items items2 n n2 dd dd2 sl sl2 i1 i2 _ 0 (Qw _) (Qw _) rfl prog w A R _ ⟨hl,hb,h⟩)⟩
section
variable {prog:Qt} {w:QF} {A:QG} {E:Value->Pu->Prop} {s:Pu}
end
end L2
namespace L2
open PySem PySem.Spec PyProof.Rows PySem.W
theorem ji:∀ {a b c:List Int},HT.lexLt a b=true->HT.lexLt b c=true->HT.lexLt a c=true
 | [],[],_,h,_=>by cases h
 | [],_::_,[],_,h=>by cases h
 | [],_::_,_::_,_,_=>rfl
 | _::_,[],_,h,_=>by cases h
 | _::_,_::_,[],_,h=>by cases h
 | x::a,y::b,z::c,h1,h2=>by
  rw[HT.iI] at h1 h2 ⊢
  by_cases e1:x=y
  ·rw[if_pos e1] at h1
   by_cases e2:y=z
   ·rw[if_pos e2] at h2
    rw[if_pos (e1.trans e2)]
    exact ji h1 h2
   ·rw[if_neg e2] at h2
    rw[e1,if_neg e2]
    exact h2
  ·rw[if_neg e1] at h1
   have d1:=of_decide_eq_true h1
   by_cases e2:y=z
   ·rw[← e2,if_neg e1]
    exact h1
   ·rw[if_neg e2] at h2
    have d2:=of_decide_eq_true h2
    rw[if_neg (by lia)]
    exact decide_eq_true (by lia)
theorem um:∀ {a b:List Int},a≠b->HT.lexLt a b=false->HT.lexLt b a=true
 | [],[],h,_=>absurd rfl h
 | [],_::_,_,h=>by cases h
 | _::_,[],_,_=>rfl
 | x::a,y::b,h,e=>by
  rw[HT.iI] at e ⊢
  by_cases q:x=y
  ·rw[if_pos q] at e
   rw[if_pos q.symm]
   exact um (fun z=>h (by rw[q,z])) e
  ·rw[if_neg q] at e
   rw[if_neg (fun z=>q z.symm)]
   have:=of_decide_eq_false e
   exact decide_eq_true (by lia)
section
variable {prog:Qt} {w:QF} {A:QG} {E:Value->Pu->Prop} {s:Pu}
theorem Bk {l b:Addr} {items items2:Array Value} {ns ms:List Int} {C:Bool->Pu->Prop} (hl:s.heap.IsList l items) (hb:s.heap.IsList b items2) (i1:Ra items.toList ns) (i2:Ra items2.toList ms) (hu:A.units < cLine) (h:C (HT.lexLt ns ms) s):PX (Qo prog w) A (keyLt' oneType' (.ref l) (.ref b)) C E s:=by
 obtain⟨⟨cls,dd,data,sl⟩,ho,hc,n,hd⟩:=id hl
 obtain⟨⟨cls2,dd2,data2,sl2⟩,ho2,hc2,n2,hd2⟩:=id hb
 simp only at hc hd hc2 hd2
 subst hc hd hc2 hd2
 rw[keyLt'_oneType,oneLt'_eq]
 simp only[if_true]
 refine Pn (wpAny_cRoomFor hu ?_)
 refine Pn (wpAny_callSpecialIfBound?_slot ⟨_,ho,rfl⟩ F.slot_list_lt (Ua F.slot_list_lt ⟨_,ho,rfl⟩ F.entry_list_lt (F.args_list_lt_2 _ _) (yt l b items items2 n n2 dd dd2 sl sl2 i1 i2) ⟨ho,ho2,?_⟩))
 exact Th h
theorem qH {a:Addr} {vs:List Value} {n:Nat} {κ:Vt} {o:Nat->Nat->Bool} {P:Fin->Pu->Prop} (ho:s.heap.get? a=some (Sq "list" vs.toArray n)) (h64:vs.length < 64)
  (hk:2<=vs.length->∀ h',qd s.heap h' a->∀ Q:Vt->Pu->Prop,Q κ { s with heap:=h' }->PX (Qo prog w) A (keyKind' vs.toArray) Q E { s with heap:=h' })
  (hO:∀ h',qd s.heap h' a->∀ i j,i < vs.length->j < vs.length->∀ C:Bool->Pu->Prop,C (o i j) { s with heap:=h' }->PX (Qo prog w) A (keyLt' κ (vs.getD i QT) (vs.getD j QT)) C (fun _ _=>False) { s with heap:=h' })
  (tr:∀ i j k,i < vs.length->j < vs.length->k < vs.length->o i j=true->o j k=true->o i k=true) (tot:∀ i j,i < vs.length->j < vs.length->i≠j->o i j=false->o j i=true)
  (h:∀ p:Array Nat,d7 vs.length p->UpO o p vs.length->P (.done (.ret .none)) { s with heap:=sortedHeap s.heap a vs (p.toList.map fun i=>vs.getD i QT).toArray }) :
  PX (Qo prog w) A (Sd.«list.sort» ⟨[.ref a],[]⟩) P E s:=by
 rw[list_sort_plain]
 have ha:a < s.heap.objs.size:=Qa ho
 refine Pn (listItems_at ho rfl ?_)
 refine Pn (listUpdate_at ho rfl ?_ (by rw[P0,Us]; lia) (Qw _))
 obtain⟨e1,ho1⟩:∃ e1,(s.heap.update a (RJ fun _=>#[])).get? a=some (Sq "list" #[] e1):=⟨_,get?_update_seq ho (fun _=>#[])⟩
 refine Pn (seqEpoch_at ho1 rfl ?_)
 refine Pn (wpAny_newTuple ?_ (by show vs.length<=_; rw[Us]; lia))
 refine Pn (wpAny_newList ?_ (Qw _))
 refine SN ?_
 have ho6:(((s.heap.update a (RJ fun _=>#[])).push (Sq "tuple" vs.toArray 0)).push (Sq "list" #[] 0)).get? a=some (Sq "list" #[] e1):=by
  rw[Uq _ _ _ (by rw[size_push',Vo]; exact Qq (Rv ha)),Uq _ _ _ (by rw[Vo]; exact Qq ha)]
  exact ho1
 have kp:qd s.heap (((s.heap.update a (RJ fun _=>#[])).push (Sq "tuple" vs.toArray 0)).push (Sq "list" #[] 0)) a:=fun b o hb e=>by
  have hlt:b < s.heap.objs.size:=Qa e
  rw[Uq _ _ _ (by rw[size_push',Vo]; exact Qq (Rv hlt)),Uq _ _ _ (by rw[Vo]; exact Qq hlt),Heap.get?_update_ne _ _ _ _ hb]
  exact e
 show PX (Qo prog w) A _ P E { s with heap:=((s.heap.update a (RJ fun _=>#[])).push (Sq "tuple" vs.toArray 0)).push (Sq "list" #[] 0) }
 dsimp only
 have hsz:vs.toArray.size=vs.length:=by simp
 have erange:(Xl (PL vs.length)).map (kas_item (VM vs))=VM vs:=by
  have e:=kas_range (VM vs)
  rw[show (VM vs).size=vs.length from pairsOf_size vs] at e
  exact e
 have emap:∀ p:Array Nat,(p.map (kas_item (VM vs))).map (·.2)=(p.toList.map fun i=>vs.getD i QT).toArray:=fun p=>by
  apply Array.ext'
  simp [kas_item_eq]
 by_cases h2:vs.toArray.size < 2
 ·rw[if_pos h2,if_pos h2]
  refine Pn (Py ?_)
  rw[StateT.run_pure]
  refine Pn (Py ?_)
  dsimp only
  have em:(VM vs).map (·.2)=((PL vs.length).map fun i=>vs.getD i QT).toArray:=by
   rw[← erange,emap]
  refine Pn (seqEpoch_at ho6 rfl ?_)
  refine Pn (listUpdate_at ho6 rfl ?_ (Qw _) (by rw[Array.size_map]; show (VM vs).size<=_; rw[pairsOf_size,Us]; lia))
  simp only[bne_self_eq_false,V7,if_false]
  have:=h (Xl (PL vs.length)) (List.Perm.refl _) fun i j hij hj=>by lia
  refine Py ?_
  show P _ { s with heap:=sortedHeap s.heap a vs ((VM vs).map (·.2)) }
  rw[em]
  exact this
 ·rw[if_neg h2,if_neg h2]
  refine Pn (hk (by lia) _ kp _ ?_)
  have est:SortSt.mk' κ (vs.toArray.zip vs.toArray) #[] 7 none=kas_st κ (VM vs) (Xl (PL vs.length)):=by
   unfold kas_st
   rw[erange]
   rfl
  rw[est]
  refine Pn (Sv (kas_runs (prog:=prog) (w:=w) (A:=A) (E:=E) (it:=VM vs) (κ:=κ) (n:=vs.length) (s:={ s with heap:=((s.heap.update a (RJ fun _=>#[])).push (Sq "tuple" vs.toArray 0)).push (Sq "list" #[] 0) })
   (G:=fun p s'=>(d7 vs.length p/\UpO o p vs.length)/\s'={ s with heap:=((s.heap.update a (RJ fun _=>#[])).push (Sq "tuple" vs.toArray 0)).push (Sq "list" #[] 0) })
   (Q:=fun _ st' s'=>(∃ p,(d7 vs.length p/\UpO o p vs.length)/\arrOf st'=p.map (kas_item (VM vs))/\failedOf st'=none)/\s'={ s with heap:=((s.heap.update a (RJ fun _=>#[])).push (Sq "tuple" vs.toArray 0)).push (Sq "list" #[] 0) })
   (by lia) h64 (fun p' st' s' _ ea ef hg=>⟨⟨p',hg.1,ea,ef⟩,hg.2⟩) (Er tr tot (fun i j hi hj C hC=>?_) (by lia) fun p hp hu=>⟨⟨hp,hu⟩,rfl⟩)) ?_ fun _ _ e=>e)
  ·unfold kas_cmp
   rw[kas_item_eq,kas_item_eq]
   exact hO _ kp i j hi hj C hC
  ·rintro⟨⟨⟩,st'⟩ s' ⟨⟨p,⟨hp,hu⟩,e1,e2⟩,rfl⟩
   dsimp only at e1 e2 ⊢
   have em:(arrOf st').map (·.2)=(p.toList.map fun i=>vs.getD i QT).toArray:=by rw[e1,emap]
   refine Pn (seqEpoch_at ho6 rfl ?_)
   refine Pn (listUpdate_at ho6 rfl ?_ (Qw _) (by rw[em,P0,Pq,Qs,hp.size,Us]; lia))
   rw[e2]
   simp only[bne_self_eq_false,V7,if_false]
   rw[em]
   exact Py (h p hp hu)
end
end L2
namespace L2
open PySem PySem.Spec PyProof.Rows PySem.W
section
variable {prog:Qt} {w:QF} {A:QG} {E:Value->Pu->Prop} {s:Pu}
theorem yp {l:Addr} {vs:List Value} {κ:Vt} {o:Nat->Nat->Bool} {Q:Value->Pu->Prop} (hl:s.heap.IsList l vs.toArray) (h64:vs.length < 64)
  (hk:2<=vs.length->∀ h':Q7,(∀ b o,s.heap.get? b=some o->h'.get? b=some o)->∀ Q:Vt->Pu->Prop,Q κ { s with heap:=h' }->PX (Qo prog w) A.in1.in1 (keyKind' vs.toArray) Q E { s with heap:=h' })
  (hO:∀ h':Q7,(∀ b o,s.heap.get? b=some o->h'.get? b=some o)->∀ i j,i < vs.length->j < vs.length->∀ C:Bool->Pu->Prop,C (o i j) { s with heap:=h' }->PX (Qo prog w) A.in1.in1 (keyLt' κ (vs.getD i QT) (vs.getD j QT)) C (fun _ _=>False) { s with heap:=h' })
  (tr:∀ i j k,i < vs.length->j < vs.length->k < vs.length->o i j=true->o j k=true->o i k=true) (tot:∀ i j,i < vs.length->j < vs.length->i≠j->o i j=false->o j i=true)
  (h:∀ p:Array Nat,d7 vs.length p->UpO o p vs.length->Q (.ref (s.heap.objs.size+1)) { s with heap:=sortedAll s.heap vs (p.toList.map fun i=>vs.getD i QT).toArray }) :
  PX (Qo prog w) A (call (.builtin "sorted") [.ref l]) Q E s:=by
 refine Calls.call_function_entry kind_sorted plain_sorted entry_sorted (args_sorted1 _) ?_
 unfold Sd.«sorted»
 refine Pn (m:=checkCount "sorted" 1 1 _) (Py ?_)
 refine Pn (collect_list hl ?_ (by rw[Us]; lia))
 refine Pn (wpAny_newList ?_ (by rw[Us]; lia))
 have hsz:((s.heap.push (Sq "list" #[] 0)).update s.heap.objs.size (RJ (·++vs.toArray))).objs.size=s.heap.objs.size+1:=by
  rw[Vo,size_push']
 have hoL:(((s.heap.push (Sq "list" #[] 0)).update s.heap.objs.size (RJ (·++vs.toArray))).push (Sq "list" vs.toArray 0)).get? (s.heap.objs.size+1)=some (Sq "list" vs.toArray 0):=by
  rw[← hsz]; exact PB _ rfl
 have keep:∀ b o,s.heap.get? b=some o->(((s.heap.push (Sq "list" #[] 0)).update s.heap.objs.size (RJ (·++vs.toArray))).push (Sq "list" vs.toArray 0)).get? b=some o:=fun b o q=>by
  have hlt:b < s.heap.objs.size:=Qa q
  rw[Uq _ _ _ (by rw[hsz]; exact Qq (Rv hlt)),Heap.get?_update_ne _ _ _ _ (Qq hlt),Uq _ _ _ (Qq hlt)]
  exact q
 have kb:∀ h':Q7,qd (((s.heap.push (Sq "list" #[] 0)).update s.heap.objs.size (RJ (·++vs.toArray))).push (Sq "list" vs.toArray 0)) h' (s.heap.objs.size+1)->∀ b o,s.heap.get? b=some o->h'.get? b=some o:=fun h' k b o q =>
  k b o (Qq (Rv (Qa q))) (keep b o q)
 show PX _ _ _ _ _ { s with heap:=((s.heap.push (Sq "list" #[] 0)).update s.heap.objs.size (RJ (·++vs.toArray))).push (Sq "list" vs.toArray 0) }
 rw[hsz]
 refine Pn (SN (Q6 slot_list_sort ⟨_,hoL,rfl⟩ entry_list_sort (qH (s:={ s with heap:=((s.heap.push (Sq "list" #[] 0)).update s.heap.objs.size (RJ (·++vs.toArray))).push (Sq "list" vs.toArray 0) }) hoL h64 (fun h2 h' k=>hk h2 h' (kb h' k)) (fun h' k=>hO h' (kb h' k)) tr tot fun p hp hu=>⟨_,rfl,?_⟩) (args_list_sort _)))
 exact Py ⟨_,rfl,h p hp hu⟩
end
theorem BL {β:Type} {l:List β} {d:β} {p:Array Nat} (hp:d7 l.length p):(p.toList.map fun i=>l.getD i d).Perm l:=by
 refine (List.Perm.map _ hp).trans ?_
 have e:(PL l.length).map (fun i=>l.getD i d)=l:=by
  apply List.ext_getElem (by simp)
  intro i h1 h2
  simp [h2]
 rw[e]
section
variable {X:Cx} {k:Nat}
inductive xx (K:Qp) (xs:List V) (H:Hp) (Q:VK):Prop where
 | mk (p:Addr) (ps:List (Addr × List Int)) (z0:xs=[.ref p]) (z1:SqL K H p (ps.map fun p=>V.ref p.1)) (z2:ps.length < 64) (z3:(∀ q∈ps,SqL K H q.1 (q.2.map V.int))) (z4:(ps.map (·.2)).Nodup) (z5:∀ qs:List (Addr × List Int),qs.Perm ps->qs.Pairwise (fun a b=>HT.lexLt a.2 b.2=true)->∀ l,H l=none->Q (.ref l) (upd H l (.lst (qs.map fun p=>V.ref p.1)))):xx K xs H Q
def vC (K:Qp):List V->Hp->VK->Prop:=fun xs H Q=>xx K xs H Q
theorem nT (hr:oG k X.A):ik X (.builtin "sorted") (vC X.K):=by
 intro pins s σ H xs us Q I r h
 obtain⟨p,ps,rfl,hq,h64,ht,hnd,q⟩:=h
 obtain⟨u,rfl,ru⟩:=vals1 r
 cases ru
 obtain⟨its,rv,pl,_⟩:=I.list hq
 have ei:=zy ps its rv
 subst ei
 have lv:(ps.map fun p=>QK p.1).length=ps.length:=by simp
 have pr:∀ p∈ps,∃ its:List Value,s.heap.IsList p.1 its.toArray/\Ra its p.2:=fun p hm=>by
  obtain⟨i2,r2,p2,_⟩:=I.list (ht p hm)
  exact⟨i2,p2.isList,intsAre_of r2⟩
 have kl:∀ {h':Q7} {a:Addr} {it:Array Value},(∀ b o,s.heap.get? b=some o->h'.get? b=some o)->s.heap.IsList a it->h'.IsList a it:=fun kp ⟨ob,e,r⟩=>⟨ob,kp _ _ e,r⟩
 have hu:X.A.in1.in1.units < cLine:=by
  have:=hr.un
  show X.A.units+1+1 < _
  lia
 let o:Nat->Nat->Bool:=fun i j=>HT.lexLt (ps.getD i (0,[])).2 (ps.getD j (0,[])).2
 have dif:∀ i j,i < ps.length->j < ps.length->i≠j->(ps.getD i (0,[])).2≠(ps.getD j (0,[])).2:=fun i j hi hj ne z=>by
  have h1:(ps.getD i (0,[])).2=(ps.map (·.2))[i]'(by simpa using hi):=by simp [hi]
  have h2:(ps.getD j (0,[])).2=(ps.map (·.2))[j]'(by simpa using hj):=by simp [hj]
  rw[h1,h2] at z
  exact ne ((Wo hnd).mp z)
 refine yp (o:=o) (κ:=oneType') pl.isList (by lia) (fun h2 h' kp Q' hQ=>?_) (fun h' kp i j hi hj C hC=>?_) (fun i j k _ _ _ a b=>ji a b) (fun i j hi hj ne e=>um (dif i j (by lia) (by lia) ne) e) fun pm hp hup=>?_
 ·refine kas_kind (T:=.type "list") h2 (fun v hv=>?_) (by rfl) (by rfl) hQ
  obtain⟨p,hm,rfl⟩:=List.mem_map.mp hv
  obtain⟨it,h1,_⟩:=pr p hm
  obtain⟨ob,e,c,_⟩:=kl kp h1
  exact kitAt_ty _ _ ⟨ob,e,c⟩
 ·have hi':i < ps.length:=by lia
  have hj':j < ps.length:=by lia
  rw[show (ps.map fun p=>QK p.1).getD i QT = .ref ps[i].1 by simp [hi'],show (ps.map fun p=>QK p.1).getD j QT = .ref ps[j].1 by simp [hj']]
  obtain⟨i1,l1,n1⟩:=pr ps[i] (Q9 hi')
  obtain⟨i2,l2,n2⟩:=pr ps[j] (Q9 hj')
  refine Bk (kl kp l1) (kl kp l2) (by simpa using n1) (by simpa using n2) hu ?_
  have:o i j=HT.lexLt ps[i].2 ps[j].2:=by simp [o,hi',hj']
  rw[← this]
  exact hC
 ·rw[lv] at hp hup
  obtain⟨e,he⟩:=sortedAll_at s.heap (ps.map fun p=>QK p.1) (pm.toList.map fun i=>(ps.map fun p=>QK p.1).getD i QT).toArray
  have hlt:∀ i∈pm.toList,i < ps.length:=fun i hi=>List.mem_range.mp (hp.mem_iff.mp hi)
  have hml:(pm.toList.map fun i=>V.ref (ps.getD i (0,[])).1).length<=sizeLine:=by
   rw[Pq,Qs,hp.size,Us]
   lia
  have q':=q (pm.toList.map fun i=>ps.getD i (0,[])) (BL hp) ?_ (s.heap.objs.size+1) (I.hok.fresh (Ti _))
  ·rw[RL] at q'
   exact⟨.ref _,_,I.JK rfl rfl (fun _ _=>sortedAll_old) (Ti _) (De pm.toList hlt) hml he,rfl,q'⟩
  ·rw[List.pairwise_iff_getElem]
   intro i j hi hj hij
   rw[Pq,Qs,hp.size] at hi hj
   have:=hup i j hij hj
   simp only[List.getElem_map]
   have g:∀ x (hx:x < ps.length),pm.getD x 0=pm.toList[x]'(by rw[Qs,hp.size]; exact hx):=fun x hx=>by
    have:x < pm.size:=by rw[hp.size]; exact hx
    simp [Array.getD,this]
   rw[g i hi,g j hj] at this
   exact this
end
end L2
namespace L2
open PySem PySem.Spec PyProof.Rows
inductive HasDef (K:Qe) (x:Rr) (st:Stmt) (f:Addr):Prop where
 | mk {od an:Option Addr} {sl:Array (Option Value)} {oc kV dc pm cd ct:Value} (a:PySem.W.nsIn K Qy x=some (some (.ref f))) (l:K.lookup f=some ⟨oc,od,.func (Vf x x (kW st) (iV st) (aJ st) .none kV dc pm an cd ct),sl⟩) (c:WN K cd x=true) (k:V2 K (.ref f)=true):HasDef K x st f
section
variable {P:Qt} {w:QF} {K:Qp} {mg:Rr->Option Value} {base h:Q7} {x:Rr} {st:Stmt} {f:Addr} {ps:List Rr} {sp:Sp} {k:Nat}
theorem HasDef.name (q:HasDef K x st f) (X:K.In h) (G:h.Ns Qy mg):mg x=some (.ref f):=by
 obtain⟨a,l,c,k⟩:=q
 exact PySem.W.mg_of X G a
theorem HasDef.df (q:HasDef K x st f) (X:K.In h) (G:h.Ns Qy mg) (hb:∀ fd,Fun K x x st f fd->Binds K fd ps []) (ok:∀ fd,Fun K x x st f fd->eX P w K mg base CX0 k f fd ps sp):Df P w K mg base x k ps sp:=by
 obtain⟨a,l,c,k⟩:=q
 have F:=Hs l c k
 exact⟨⟨_,_,ok _ F,PySem.W.mg_of X G a,k,hb _ F⟩⟩
theorem HasDef.law {y:Rr} (q:HasDef K x st f) (hb:∀ (kV dc pm:Value) (an:Option Addr) (cd ct:Value) (s:Pu) (v:Value),WX s (W.fnOf x x (kW st) (iV st) (aJ st) .none kV dc pm an cd ct) ⟨[v],[]⟩ [(y,v)]):∃ fd,Fun K x x st f fd/\∀ (s:Pu) (v:Value),WX s fd ⟨[v],[]⟩ [(y,v)]:=by
 obtain⟨a,l,c,k⟩:=q
 exact⟨_,Hs l c k,hb _ _ _ _ _ _⟩
theorem Ox {α:Type}:∀ {us:List α},us.length=1->∃ x0,us=[x0]
 | [x0],_=>⟨x0,rfl⟩
theorem Ow {α:Type}:∀ {us:List α},us.length=2->∃ x0 x1,us=[x0,x1]
 | [x0,x1],_=>⟨x0,x1,rfl⟩
theorem O2 {α:Type}:∀ {us:List α},us.length=3->∃ x0 x1 x2,us=[x0,x1,x2]
 | [x0,x1,x2],_=>⟨x0,x1,x2,rfl⟩
theorem O9 {α:Type}:∀ {us:List α},us.length=4->∃ x0 x1 x2 x3,us=[x0,x1,x2,x3]
 | [x0,x1,x2,x3],_=>⟨x0,x1,x2,x3,rfl⟩
theorem Ph {α:Type}:∀ {us:List α},us.length=5->∃ x0 x1 x2 x3 x4,us=[x0,x1,x2,x3,x4]
 | [x0,x1,x2,x3,x4],_=>⟨x0,x1,x2,x3,x4,rfl⟩
end
end L2
macro "k_four" : tactic=>`(tactic| (apply L2.HasDef.mk <;> k_is))
macro "k_bind1" : tactic=>`(tactic| (intro _ F; exact F.binds fun _ _ _ _ _ _ us hl=>by obtain⟨x0,e⟩:=L2.Ox hl; subst e; rfl))
macro "k_bind2" : tactic=>`(tactic| (intro _ F; exact F.binds fun _ _ _ _ _ _ us hl=>by obtain⟨x0,x1,e⟩:=L2.Ow hl; subst e; rfl))
macro "k_bind3" : tactic=>`(tactic| (intro _ F; exact F.binds fun _ _ _ _ _ _ us hl=>by obtain⟨x0,x1,x2,e⟩:=L2.O2 hl; subst e; rfl))
macro "k_bind4" : tactic=>`(tactic| (intro _ F; exact F.binds fun _ _ _ _ _ _ us hl=>by obtain⟨x0,x1,x2,x3,e⟩:=L2.O9 hl; subst e; rfl))
macro "k_bind5" : tactic=>`(tactic| (intro _ F; exact F.binds fun _ _ _ _ _ _ us hl=>by obtain⟨x0,x1,x2,x3,x4,e⟩:=L2.Ph hl; subst e; rfl))
macro "k_bind6" : tactic=>`(tactic| (intro _ F; exact F.binds fun _ _ _ _ _ _ us hl=>by obtain⟨x0,x1,x2,x3,x4,x5,e⟩:=L2.len6 hl; subst e; rfl))
namespace L2
open PySem PySem.Spec PyProof.Rows
section
variable {X:Cx} {k j:Nat} {x m:Rr} {C:Addr} {ps:List Rr} {sp:Sp} {p pos apos:Vk} {o e:Expr} {es:List Expr} {to:TE} {t:TA} {f:Rr}
end
end L2
namespace My
open PySem L2
variable {P:Qt} {w:QF} {K:Qp} {mg:Rr->Option Value} {base:Q7} {f:Addr} {fd:Ui}
def top (i:Nat):Stmt:=PySem.Challenge.pw_loveboon_k23_whole_folk_numbered_otherwi.main.body.getD i (.Pass ⟨0,0,0,0⟩)
theorem au {H:Hp} {p:Addr} (h:H p=none) (o:HO):aM H (upd H p o):=fun b u q=>by rw[bx (d9 q h)]; exact q
theorem aF {H H':Hp} {p:Addr} (s:aM H H') (h:H p=none) (o:HO):aM H (upd H' p o):=fun b u q=>by rw[bx (d9 q h)]; exact s b u q
theorem jB {K:Qp} {H H':Hp} {a:Addr} {xs:List V} (e:aM H H') (h:SqT K H a xs):SqT K H' a xs:=by
 rcases h with (h | ⟨o,h⟩) | h
 ·exact .inl (.inl (e _ _ h))
 ·exact .inl (.inr ⟨o,e _ _ h⟩)
 ·exact .inr h
theorem zQ {H:Hp} {p:Addr} {o o':HO}:upd (upd H p o) p o'=upd H p o':=by
 funext b
 unfold upd
 by_cases e:b=p
 ·rw[if_pos e,if_pos e]
 ·rw[if_neg e,if_neg e,if_neg e]
theorem small {n:Nat} (h:n<=1000):n<=sizeLine:=UL (aD h)
theorem int_at {ns:List Int} {i:Nat} {x:V} (h:(ns.map V.int)[i]? = some x):∃ n,ns[i]? = some n/\x = .int n:=by
 rw[Qj] at h
 cases e:ns[i]? with
 | none=>rw[e] at h; cases h
 | some n=>rw[e] at h; exact⟨n,rfl,(QC h).symm⟩
theorem pR {α β:Type} (f:α->β) {xs:List α} {i:Nat} {x:α} (h:xs[i]? = some x):(xs.take i).map f++[f x]=(xs.take (i+1)).map f:=by
 rw[Qz,h,PJ]
 rfl
theorem o5 {ns:List Int} {i:Nat} (h:i < ns.length):atI (ns.map V.int) (i:Int)=some (.int ns[i]):=iB (by rw[Qj,Px h]; rfl)
theorem gT {i:Nat} {x:V} {σ:St} {H:Hp} {A B:St->Hp->Prop} (h:A (σ.set i (some x)) H):Gb i x σ H (fun σ3 H3=>Jp σ3 H3 (fun b H4=>if b=true then A σ3 H4 else B σ3 H4)):=by
 show if true=true then A (σ.set i (some x)) H else B (σ.set i (some x)) H
 rw[if_pos rfl]
 exact h
theorem aH {H H1:Hp} {p:Addr} {o:HO} (e:upd H p o=H1) (h:H p=none):aM H H1/\H1 p=some o:=by
 subst e
 exact⟨au h _,aj⟩
theorem aU {xs:List V} {k:Nat} {v:V} (h:xs[k]? = some v):atI xs (k:Int)=some v:=iB h
theorem dU {ns:List Int} {k:Nat} {n:Int} (h:ns[k]? = some n):(ns.map V.int)[k]? = some (.int n):=by rw[Qj,h]; rfl
theorem tT {σ:St} {H:Hp} {A B:Hp->Prop} (h:A H):Jp σ H (fun b H4=>if b=true then A H4 else B H4):=by
 show if true=true then A H else B H
 rw[if_pos rfl]
 exact h
theorem nH:∀ ns:List Int,n8 (ns.map Dm.int)=0
 | []=>by simp [n8]
 | n::r=>by simp [n8,Dm.dep,nH r]
theorem ju {H:Hp} {a:Addr} {ns:List Int} (h:H a=some (.tup (ns.map V.int))) (l:ns.length<=1000):Rep H (.ref a) (.tup (ns.map Dm.int)):=.tup h (by rw[Pq]; lia) (nW ns)
theorem vQ (ns:List Int):(Dm.tup (ns.map Dm.int)).dep=1:=by rw[Dm.dep,nH]
def vN (i:Nat):V:=.int (i:Int)
theorem eF (c:List Nat):c.map vN=(c.map fun i:Nat=>(i:Int)).map V.int:=by rw[RL]; rfl
theorem rT {c:List Nat} {j:Nat} {x:V} (h:(c.map vN)[j]? = some x):∃ i,c[j]? = some i/\x=vN i:=by
 rw[Qj] at h
 cases e:c[j]? with
 | none=>rw[e] at h; cases h
 | some i=>rw[e] at h; exact⟨i,rfl,(QC h).symm⟩
theorem bR {H:Hp} {D:Addr} {zs zs':List V} (h:H D=some (.lst zs)):∀ a xs,H a=some (HO.tup xs)->upd H D (.lst zs') a=some (HO.tup xs):=fun a xs q=>by
 rw[bx (fun z=>by rw[z,h] at q; cases q)]
 exact q
theorem MN {α:Type} {xs:List α} {v:α} (h:xs[xs.length - 1]? = some v):atI xs (-1)=some v:=by
 have hl:xs.length - 1 < xs.length:=(List.getElem?_eq_some_iff.mp h).1
 have hne:xs≠[]:=fun z=>by rw[z] at hl; exact absurd hl (SX _)
 have e:xs=xs.dropLast++[v]:=by
  rw[← List.getLast?_eq_getElem?,List.getLast?_eq_some_getLast hne] at h
  rw[← QC h]
  exact (List.dropLast_concat_getLast hne).symm
 rw[e]
 exact Ge _ _
abbrev jo:Stmt:=top 28
theorem bU:aX ["_law_cell_here","_law_parts","_law_one","_law_two","_law_six","_law_found","_law_part"] ["_law_cell_here","_law_parts"] (aJ jo):=⟨rfl,rfl,rfl,by decide+kernel,rfl,by decide+kernel,by decide+kernel⟩
def qm (c:Int):Int:=(c * 48271+11) % 2147483647
def Dw (c:Int):Int:=(qm c * qm c+40692 * qm c+c) % 2147483399
def M4 (c:Int):Int:=(Dw c * 16807+qm c) % 1000000007
def jW (c:Int):Int:=if decide ((if c < 0 then -c else c) < 10 ^ (18:Int).toNat)=true then Dw c+2147483399 * (M4 c+1000000007 * qm c) else (if c < 0 then -c else c) - 10 ^ (18:Int).toNat
def uw:Int->List Int->List Int
 | _,[]=>[]
 | c,p::ps=>c % p::uw (c / p) ps
def divC:Int->List Int->Int
 | c,[]=>c
 | c,p::ps=>divC (c / p) ps
theorem nA (p:Int):∀ (ps:List Int) (c:Int),uw c (ps++[p])=uw c ps++[divC c ps % p]
 | [],_=>rfl
 | q::ps,c=>by
  show c % q::uw (c / q) (ps++[p])=c % q::(uw (c / q) ps++[divC (c / q) ps % p])
  rw[nA p ps]
theorem jG (p:Int):∀ (ps:List Int) (c:Int),divC c (ps++[p])=divC c ps / p
 | [],_=>rfl
 | q::ps,c=>jG p ps (c / q)
theorem dZ:∀ (ps:List Int) (c:Int),(uw c ps).length=ps.length
 | [],_=>rfl
 | _::ps,_=>congrArg Nat.succ (dZ ps _)
theorem bL:∀ {ps:List Int} {c:Int} {i:Nat} {p:Int},(∀ q∈ps,0 < q)->ps[i]? = some p->∃ v,(uw c ps)[i]? = some v/\0<=v/\v < p
 | [],_,_,_,_,h=>by simp at h
 | q::ps,c,0,p,hp,h=>by
  cases (show some q=some p from h)
  exact⟨c % q,rfl,Ri _ (by have:=hp q PN; lia),QL _ (hp q PN)⟩
 | q::ps,c,i+1,p,hp,h=>by
  obtain⟨v,e,r⟩:=bL (ps:=ps) (c:=c / q) (i:=i) (fun z hz=>hp z (Qc _ hz)) (by simpa using h)
  exact⟨v,by simpa [uw] using e,r⟩
def ug (c:Int) (ps:List Int):List Int:=uw (jW c) ps
theorem Ie (c:Int):0<=qm c/\qm c < 2147483647:=⟨Ri _ (by decide),QL _ (by decide)⟩
theorem Jz (c:Int):0<=Dw c/\Dw c < 2147483399:=⟨Ri _ (by decide),QL _ (by decide)⟩
inductive vY (K:Qp) (vs:List V) (H:Hp) (Q:VK):Prop where
 | mk (c:Int) (p:Addr) (ps:List Int) (z0:vs=[.int c,.ref p]) (z1:SqL K H p (ps.map V.int)) (z2:(∀ q∈ps,0 < q/\q < 1073741824)) (z3:ps.length<=1000) (z4:∀ r,H r=none->Q (.ref r) (upd H r (.lst ((ug c ps).map V.int)))):vY K vs H Q
def jb (K:Qp):Sp:=fun vs H Q _=>vY K vs H Q
theorem rG (F:Fun K "_law_draws" "_law_draws" jo f fd) (B:Bt mg) :
  eX P w K mg base CX0 1 f fd ["_law_cell_here","_law_parts"] (jb K):=by
 refine F.ok bU (fun vs H Q E h=>?_) (fun cdv A outer s H vs Q E hr h=>?_)
 ·obtain⟨c,p,ps,rfl,_⟩:=h
  rfl
 ·obtain⟨c,p,ps,rfl,hS,hp,hl,q⟩:=h
  refine⟨_,(aA (cg (aV Cd (aK jC rfl B.abs_ rR (aa (pv 0) aq)) (aP nF aB aB) (bf _)) (aA (aR (i:=2) bU.nd rfl (Qi rfl) (aP cU (aP bT (aP gJ (pv 0) aB) aB) aB))
 (aA (aR (i:=3) bU.nd rfl (Qi rfl) (aP cU (aP bT (aP bT (aP gJ (pv 2) (pv 2)) (aP gJ aB (pv 2))) (pv 0)) aB))
 (aA (aR (i:=4) bU.nd rfl (Qi rfl) (aP cU (aP bT (aP gJ (pv 3) aB) (pv 2)) aB))
 (aC (aR (i:=0) bU.nd rfl (Qi rfl) (aP bT (pv 3) (aP gJ aB (aP bT (pv 4) (aP gJ aB (pv 2)))))))))) (aC (aR (i:=0) bU.nd rfl (Qi rfl) (aP nG (aK jC rfl B.abs_ rR (aa (pv 0) aq)) (aP nF aB aB)))))
 (aA (aR (i:=5) bU.nd rfl (Qi rfl) (bK aq))
 (aA (gK Ro rfl (dY (pv 1)) (aG (i:=6) bU.nd rfl (Qi rfl)) (aA (gk (jX QB Rm Rk cM (pv 5) (aa (aP cU (pv 0) (pv 6)) aq)))
 (aC (aR (i:=0) bU.nd rfl (Qi rfl) (aP vU (pv 0) (pv 6))))))
 (aC (aL (pv 5)))))),?_⟩
  have b1:=Ie c
  have b2:=Jz c
  refine⟨_,rfl,_,rfl,_,_,rfl,rfl,⟨by decide,by decide,by decide⟩,_,_,rfl,rfl,_,rfl,?_⟩
  refine yP (fun h=>?_) (fun h=>?_)
  ·refine⟨_,rfl,_,_,rfl,rfl,.inr ⟨by decide,by decide⟩,_,_,rfl,rfl,_,_,rfl,rfl,(by show (0:Int) < 2147483647; decide),?_⟩
   refine⟨_,rfl,_,rfl,_,_,rfl,rfl,.inl (show -(2 ^ 64) < qm c/\qm c < 2 ^ 64 from ⟨by lia,by lia⟩),_,rfl,_,_,rfl,rfl,.inl ⟨by decide,by decide⟩,_,_,rfl,rfl,_,rfl,_,_,rfl,rfl,_,_,rfl,rfl,(by show (0:Int) < 2147483399; decide),?_⟩
   refine⟨_,rfl,_,_,rfl,rfl,.inr ⟨by decide,by decide⟩,_,rfl,_,_,rfl,rfl,_,_,rfl,rfl,(by show (0:Int) < 1000000007; decide),?_⟩
   refine⟨_,rfl,_,rfl,_,rfl,_,_,rfl,rfl,.inl ⟨by decide,by decide⟩,_,_,rfl,rfl,_,_,rfl,rfl,.inl ⟨by decide,by decide⟩,_,_,rfl,rfl,?_⟩
   refine⟨small (Qw _),fun r hr0=>?_⟩
   refine⟨_,rfl,p,rfl,⟨_,(au hr0 _).seq hS⟩,my (K:=K) (a:=p) (xs:=ps.map V.int) (fun i σ H2=>∃ (z:Int) (o t u v:Option V),z=divC (jW c) (ps.take i)/\σ=[some (.int z),some (.ref p),o,t,u,some (.ref r),v] ∧
    H2=upd H r (.lst ((uw (jW c) (ps.take i)).map V.int))) ⟨_,_,_,_,_,(if_pos h).symm,rfl,rfl⟩ ?_ ?_ ?_⟩
   ·rintro i σ H2 hi ⟨z,o,t,u,v,_,_,e⟩
    subst e
    exact (au hr0 _).seq hS
   ·rintro i x σ H2 hx ⟨z,o,t,u,v,ez,rfl,rfl⟩
    obtain⟨d,hd,rfl⟩:=int_at hx
    obtain⟨h1,h2⟩:=hp d (Qu hd)
    have et:ps.take (i+1)=ps.take i++[d]:=by rw[Qz,hd]; rfl
    refine⟨_,rfl,.inl ⟨rfl,_,SqL.of aj⟩,_,rfl,_,rfl,_,_,rfl,rfl,h1,r,_,_,rfl,rfl,aj,?_,_,rfl,_,rfl,_,_,rfl,rfl,⟨h1,h2⟩,_,_,_,_,_,?_,rfl,?_⟩
    ·rw[Pq,dZ,Qh]
     exact aD (by lia)
    ·rw[et,jG,ez]
    ·rw[zQ,et,nA,PJ,ez]
     rfl
   ·rintro σ H2 ⟨z,o,t,u,v,_,rfl,rfl⟩
    refine⟨_,rfl,?_⟩
    have q':=q r hr0
    rw[Pq,Qg]
    exact q'
  ·refine⟨_,rfl,_,rfl,_,_,rfl,rfl,⟨by decide,by decide,by decide⟩,_,_,rfl,rfl,?_⟩
   refine⟨small (Qw _),fun r hr0=>?_⟩
   refine⟨_,rfl,p,rfl,⟨_,(au hr0 _).seq hS⟩,my (K:=K) (a:=p) (xs:=ps.map V.int) (fun i σ H2=>∃ (z:Int) (o t u v:Option V),z=divC (jW c) (ps.take i)/\σ=[some (.int z),some (.ref p),o,t,u,some (.ref r),v] ∧
    H2=upd H r (.lst ((uw (jW c) (ps.take i)).map V.int))) ⟨_,_,_,_,_,(if_neg h).symm,rfl,rfl⟩ ?_ ?_ ?_⟩
   ·rintro i σ H2 hi ⟨z,o,t,u,v,_,_,e⟩
    subst e
    exact (au hr0 _).seq hS
   ·rintro i x σ H2 hx ⟨z,o,t,u,v,ez,rfl,rfl⟩
    obtain⟨d,hd,rfl⟩:=int_at hx
    obtain⟨h1,h2⟩:=hp d (Qu hd)
    have et:ps.take (i+1)=ps.take i++[d]:=by rw[Qz,hd]; rfl
    refine⟨_,rfl,.inl ⟨rfl,_,SqL.of aj⟩,_,rfl,_,rfl,_,_,rfl,rfl,h1,r,_,_,rfl,rfl,aj,?_,_,rfl,_,rfl,_,_,rfl,rfl,⟨h1,h2⟩,_,_,_,_,_,?_,rfl,?_⟩
    ·rw[Pq,dZ,Qh]
     exact aD (by lia)
    ·rw[et,jG,ez]
    ·rw[zQ,et,nA,PJ,ez]
     rfl
   ·rintro σ H2 ⟨z,o,t,u,v,_,rfl,rfl⟩
    refine⟨_,rfl,?_⟩
    have q':=q r hr0
    rw[Pq,Qg]
    exact q'
abbrev kY:Stmt:=top 27
theorem vD:aX ["_law_script","_law_k"] ["_law_script","_law_k"] (aJ kY):=⟨rfl,rfl,rfl,by decide+kernel,rfl,by decide+kernel,by decide+kernel⟩
inductive zF (K:Qp) (vs:List V) (H:Hp) (Q:VK):Prop where
 | mk (a:Addr) (ns:List Int) (k:Nat) (z0:vs=[.ref a,.int (k:Int)]) (z1:SqL K H a (ns.map V.int)) (z2:Q (.int (ns.getD k 0)) H):zF K vs H Q
def wz (K:Qp):Sp:=fun vs H Q _=>zF K vs H Q
theorem uF (F:Fun K "_law_cell" "_law_cell" kY f fd) (B:Bt mg) :
  eX P w K mg base CX0 1 f fd ["_law_script","_law_k"] (wz K):=by
 refine F.ok vD (fun vs H Q E h=>?_) (fun cdv A outer s H vs Q E hr h=>?_)
 ·obtain⟨a,ns,k,rfl,_⟩:=h
  rfl
 ·obtain⟨a,ns,k,rfl,hS,q⟩:=h
  refine⟨_,(aA (cg (aV Cd (pv 1) (aK (r:=yR K) cI rfl B.len_ ig (aa (pv 0) aq)) (bf _)) (aC (aL (bh (r:=fX K) aQ (pv 0) (pv 1) (fun _ _=>rfl)))) aW)
 (aC (aL aB))),?_⟩
  refine⟨_,rfl,_,rfl,a,_,rfl,.inl hS,_,_,rfl,rfl,_,rfl,?_⟩
  have el:(((ns.map V.int).length:Nat):Int)=(ns.length:Int):=by rw[Pq]
  rw[el]
  refine yP (fun c=>?_) (fun c=>?_)
  ·have c':(k:Int) < (ns.length:Int):=of_decide_eq_true c
   have hk:k < ns.length:=by lia
   refine⟨_,rfl,_,rfl,a,_,_,_,rfl,rfl,hS,o5 hk,?_⟩
   rw[Pz,Px hk] at q
   exact q
  ·have c':¬ (k:Int) < (ns.length:Int):=fun z=>c (decide_eq_true z)
   have hk:ns.length<=k:=by lia
   rw[Pz,Rg hk] at q
   exact q
abbrev iy:Stmt:=top 37
theorem pL:aX ["_law_cell_here","_law_n","_law_most"] ["_law_cell_here","_law_n","_law_most"] (aJ iy):=⟨rfl,rfl,rfl,by decide+kernel,rfl,by decide+kernel,by decide+kernel⟩
def Mp (c:Int) (n:Nat) (m:Int):List Int:=ug c (Qd n (m+1))
theorem jf (c:Int) (n:Nat) (m:Int):(Mp c n m).length=n:=by
 unfold Mp ug
 rw[dZ,Rf]
theorem Eb {c:Int} {n:Nat} {m:Int} (hm:0<=m) {i:Nat} (hi:i < n):∃ v,(Mp c n m)[i]? = some v/\0<=v/\v<=m:=by
 obtain⟨v,e,b1,b2⟩:=bL (ps:=Qd n (m+1)) (c:=jW c) (i:=i) (p:=m+1) (fun q hq=>by rw[List.mem_replicate] at hq; lia) (by rw[TQ,if_pos hi])
 exact⟨v,e,b1,by lia⟩
inductive tQ (vs:List V) (H:Hp) (Q:VK):Prop where
 | mk (c:Int) (n:Nat) (m:Int) (z0:vs=[.int c,.int (n:Int),.int m]) (z1:n<=1000) (z2:0<=m) (z3:m<=1000000) (z4:∀ (r:Addr) (H':Hp),aM H H'->H r=none->H' r=some (.tup ((Mp c n m).map V.int))->Q (.ref r) H'):tQ  vs H Q
def xf:Sp:=fun vs H Q _=>tQ  vs H Q
theorem qJ (z:Int) (n:Nat):(Qd n [V.int z]).flatten=(Qd n z).map V.int:=by
 induction n with
 | zero=>rfl
 | succ n ih=>rw[Sg,Vi,ih,Sg]; rfl
theorem pN (F:Fun K "_law_giving" "_law_giving" iy f fd) (B:Bt mg)
  (D_law_draws:Df P w K mg base "_law_draws" 1 ["_law_cell_here","_law_parts"] (jb K)):eX P w K mg base CX0 2 f fd ["_law_cell_here","_law_n","_law_most"] xf:=by
 refine F.ok pL (fun vs H Q E h=>?_) (fun cdv A outer s H vs Q E hr h=>?_)
 ·obtain⟨c,n,m,rfl,_⟩:=h
  rfl
 ·obtain⟨c,n,m,rfl,hn,h0,h1,q⟩:=h
  refine⟨_,(aC (aL (bG (r:=fB K) bB rfl B.tuple_ bV (aa (aY D_law_draws hr (aa (pv 0) (aa (aP Hh (bK (aa (aP bT (pv 2) aB) aq)) (pv 1)) aq))) aq)))),?_⟩
  refine⟨_,rfl,_,rfl,_,_,rfl,rfl,small (by show 1<=1000; decide),fun p1 h1'=>?_⟩
  generalize eH1:upd H p1 _=H1
  obtain⟨g1,e1⟩:=aH eH1 h1'
  have et:((n:Int)).toNat=n:=Qx n
  refine⟨_,rfl,p1,_,_,rfl,rfl,e1,by lia,by lia,?_,fun p2 h2=>?_⟩
  ·rw[et]
   show 1 * n<=sizeLine
   exact small (by lia)
  rw[et,qJ]
  generalize eH2:upd H1 p2 _=H2
  obtain⟨g2,e2⟩:=aH eH2 h2
  refine⟨c,p2,Qd n (m+1),rfl,SqL.of e2,fun z hz=>?_,?_,fun p3 h3=>?_⟩
  ·rw[List.mem_replicate] at hz
   lia
  ·rw[Rf]
   exact hn
  generalize eH3:upd H2 p3 _=H3
  obtain⟨g3,e3⟩:=aH eH3 h3
  refine⟨p3,_,rfl,.inl ⟨SqL.of e3,fun p4 h4=>?_⟩⟩
  exact q p4 _ (g1.trans (g2.trans (g3.trans (au h4 _)))) ((g1.trans (g2.trans g3)).free h4) aj
abbrev j5:Stmt:=top 29
theorem uM:aX ["_law_found","_law_due"] ["_law_found","_law_due"] (aJ j5):=⟨rfl,rfl,rfl,by decide+kernel,rfl,by decide+kernel,by decide+kernel⟩
inductive CN (n:Nat) (vs:List V) (H:Hp) (Q:VK):Prop where
 | mk (x y:V) (d:Dm) (z0:vs=[x,y]) (z1:Rep H x d) (z2:Rep H y d) (z3:d.dep < n) (z4:∀ H',aM H H'->Q (.bl true) H'):CN n vs H Q
def pD (n:Nat):Sp:=fun vs H Q _=>CN n vs H Q
theorem N5 {x:V}:decide (x=x)=true:=decide_eq_true rfl
theorem v7 (n:Nat):(Qd n true).all (fun b=>b)=true:=by
 induction n with
 | zero=>rfl
 | succ n ih=>rw[Sg,Vr,ih]; rfl
theorem wk (n:Nat):(Qd n true).map V.bl=Qd n (V.bl true):=List.map_replicate
theorem gQ {n:Nat} (F:Fun K "_law_same" "_law_same" j5 f fd) (B:Bt mg)
  (D_law_same:Df P w K mg base "_law_same" n ["_law_found","_law_due"] (pD n)):eX P w K mg base CX0 (n+1) f fd ["_law_found","_law_due"] (pD (n+1)):=by
 refine F.ok uM (fun vs H Q E h=>?_) (fun cdv A outer s H vs Q E hr h=>?_)
 ·obtain⟨x,y,d,rfl,_⟩:=h
  rfl
 ·obtain⟨x,y,d,rfl,rx,ry,hd,q⟩:=h
  refine⟨_,(aA (cg (Ba (Hl (pv 1))) (aC (aL (MP (Hl (pv 0))))) aW)
 (aA (cg (iz (aK (r:=zV K) eO rfl B.isinstance_ bF (aa (pv 1) (aa (oF B.str_ Gf) aq)))) (aC (aL (xn (aK (r:=zV K) eO rfl B.isinstance_ bF (aa (pv 0) (aa (oF B.str_ Gf) aq))) (Dn (gf gA (pv 0) (pv 1) (bf _)))))) aW)
 (aA (cg (iz (aK (r:=zV K) eO rfl B.isinstance_ bF (aa (pv 1) (aa (oF B.int_ Dk) aq)))) (aC (aL (xn (aK (r:=zV K) eO rfl B.isinstance_ bF (aa (pv 0) (aa (oF B.int_ Dk) aq))) (xn (gf gA (aK (r:=zV K) eO rfl B.isinstance_ bF (aa (pv 0) (aa (oF B.bool_ Ci) aq))) (aK (r:=zV K) eO rfl B.isinstance_ bF (aa (pv 1) (aa (oF B.bool_ Ci) aq))) (bf _)) (Dn (gf gA (pv 0) (pv 1) (bf _))))))) aW)
 (aA (cg (PW.pt (Nb (aV J7 (aK (r:=zV K) eO rfl B.isinstance_ bF (aa (pv 1) (aa (oF B.list_ vB) aq))) (aK (r:=zV K) eO rfl B.isinstance_ bF (aa (pv 0) (aa (oF B.list_ vB) aq))) (bf _)) (Lg (aV J7 (aK (r:=zV K) eO rfl B.isinstance_ bF (aa (pv 1) (aa (oF B.tuple_ bV) aq))) (aK (r:=zV K) eO rfl B.isinstance_ bF (aa (pv 0) (aa (oF B.tuple_ bV) aq))) (bf _))))) (aC (aL jw)) aW)
 (aC (aL (xn (gf gA (aK (r:=yR K) cI rfl B.len_ ig (aa (pv 0) aq)) (aK (r:=yR K) cI rfl B.len_ ig (aa (pv 1) aq)) (bf _)) (Dn (aK (r:=JV K) (tZ rfl) rfl B.all_ GJ (aa (bA (L:=["_law_k"]) (F:=["_law_found","_law_due"]) (cap:=[0,1]) rfl (bu rfl rfl (by kernel_rfl)) (cG rfl B.range_ (aa (aK (r:=yR K) cI rfl B.len_ ig (aa (pv 1) aq)) aq)) (fun _ _ _ _ _=>(aG (i:=0) (aO (by decide+kernel)) rfl (Qi rfl))) (fun _ _ _ _ _=>bC) (fun _ _ _ _ _=>(aY D_law_same hr (aa (bh (r:=rIx K) HH (pv 1) (pv 0) (fun _ _=>rfl)) (aa (bh (r:=rIx K) HH (pv 2) (pv 0) (fun _ _=>rfl)) aq))))) aq)))))))))),?_⟩
  cases rx with
  | non =>
   cases ry
   refine⟨_,rfl,_,rfl,jt ?_⟩
   exact⟨_,rfl,q H (aM.refl H)⟩
  | bl b =>
   cases ry
   refine⟨_,rfl,_,rfl,gq ?_⟩
   refine⟨_,rfl,_,_,_,_,rfl,.bl b,uL _,_,rfl,gq ?_⟩
   refine⟨_,rfl,_,_,_,_,rfl,.bl b,nu _,_,rfl,jt ?_⟩
   refine⟨_,rfl,_,_,_,_,rfl,.bl b,nu _,_,rfl,jt ?_⟩
   refine⟨_,rfl,_,_,_,_,rfl,.bl b,oE _ _,_,rfl,_,_,_,_,rfl,.bl b,oE _ _,rfl,_,rfl,jt ?_⟩
   refine⟨_,rfl,_,rfl,rfl,?_⟩
   have q':=q H (aM.refl H)
   rw[← N5 (x:=V.bl b)] at q'
   exact q'
  | int i =>
   cases ry
   refine⟨_,rfl,_,rfl,gq ?_⟩
   refine⟨_,rfl,_,_,_,_,rfl,.int i,yj _,_,rfl,gq ?_⟩
   refine⟨_,rfl,_,_,_,_,rfl,.int i,oE _ _,_,rfl,jt ?_⟩
   refine⟨_,rfl,_,_,_,_,rfl,.int i,oE _ _,_,rfl,jt ?_⟩
   refine⟨_,rfl,_,_,_,_,rfl,.int i,mY _,_,rfl,_,_,_,_,rfl,.int i,mY _,rfl,_,rfl,jt ?_⟩
   refine⟨_,rfl,_,rfl,rfl,?_⟩
   have q':=q H (aM.refl H)
   rw[← N5 (x:=V.int i)] at q'
   exact q'
  | str z =>
   cases ry
   refine⟨_,rfl,_,rfl,gq ?_⟩
   refine⟨_,rfl,_,_,_,_,rfl,.str z,oE _ _,_,rfl,jt ?_⟩
   refine⟨_,rfl,_,_,_,_,rfl,.str z,oE _ _,_,rfl,jt ?_⟩
   refine⟨_,rfl,_,rfl,rfl,?_⟩
   have q':=q H (aM.refl H)
   rw[← N5 (x:=V.str z)] at q'
   exact q'
  | @tup a xs ds ha la ra =>
   cases ry with
   | @tup b ys _ hb lb rb =>
    have ex:=ra.length
    have ey:=rb.length
    have hdl:n8 ds < n:=by
     have hd':n8 ds+1 < n+1:=by rw[Dm.dep] at hd; exact hd
     lia
    refine⟨_,rfl,_,rfl,gq ?_⟩
    refine⟨_,rfl,_,_,_,_,rfl,.tup hb,rD _,_,rfl,gq ?_⟩
    refine⟨_,rfl,_,_,_,_,rfl,.tup hb,rP _,_,rfl,gq ?_⟩
    refine⟨_,rfl,_,_,_,_,rfl,.tup hb,jJ _,_,rfl,_,_,_,_,rfl,.tup ha,jJ _,rfl,_,rfl,gq ?_⟩
    refine⟨_,rfl,_,_,_,_,rfl,.tup hb,oE _ _,_,rfl,_,_,_,_,rfl,.tup ha,oE _ _,rfl,_,rfl,gq ?_⟩
    refine⟨_,rfl,a,_,rfl,.inr (SqT.of ha),_,rfl,b,_,rfl,.inr (SqT.of hb),rfl,_,rfl,?_⟩
    have ec:decide (V.int (xs.length:Int)=V.int (ys.length:Int))=true:=decide_eq_true (by rw[ex,ey])
    rw[ec]
    refine jt ?_
    refine⟨_,rfl,b,_,rfl,.inr (SqT.of hb),_,rfl,by lia,by lia,fun D hD=>dm (lo:=0) (n:=ys.length) (fun i zs σ' H2=>(∃ v,σ'=[v,some (.ref a),some (.ref b)])/\zs=Qd i (V.bl true)/\aM H H2/\H2 D=some (.lst zs))
     ⟨⟨_,rfl⟩,rfl,au hD _,aj⟩ (fun i zs σ' H2 _ h=>h.2.2.2) ?_ ?_⟩
    ·rintro i zs σ' H2 hi ⟨⟨v,rfl⟩,rfl,sm,hDl⟩
     obtain⟨v1,d1,e1,e2,r1⟩:=ra.get (i:=i) (by lia)
     obtain⟨v2,d2,e3,e4,r2⟩:=rb.get (i:=i) hi
     rw[e2] at e4
     cases e4
     have at1:atI xs (0+(i:Int))=some v1:=by rw[Tp]; exact iB e1
     have at2:atI ys (0+(i:Int))=some v2:=by rw[Tp]; exact iB e3
     refine gT ?_
     refine⟨_,rfl,_,rfl,.inr (.inl ⟨a,xs,_,v1,rfl,rfl,SqT.of (sm _ _ ha),at1,_,rfl,_,rfl,.inr (.inl ⟨b,ys,_,v2,rfl,rfl,SqT.of (sm _ _ hb),at2,v1,v2,d1,rfl,r1.mono sm,r2.mono sm,?_,fun H3 s3=>⟨s3 _ _ hDl,?_,⟨_,rfl⟩,?_,aF (sm.trans s3) hD _,aj⟩⟩)⟩)⟩
     ·exact Uc (qt e2) hdl
     ·rw[Rf]
      exact Ql (show i < 100000 by lia) (by decide)
     ·rw[WQ]
    ·rintro zs σ' H2 ⟨_,rfl,sm,hDl⟩
     refine⟨D,Qd ys.length true,rfl,SqL.of (by rw[hDl,wk]),?_⟩
     rw[v7]
     exact q _ sm
  | @lst a xs ds ha la ra =>
   cases ry with
   | @lst b ys _ hb lb rb =>
    have ex:=ra.length
    have ey:=rb.length
    have hdl:n8 ds < n:=by
     have hd':n8 ds+1 < n+1:=by rw[Dm.dep] at hd; exact hd
     lia
    refine⟨_,rfl,_,rfl,gq ?_⟩
    refine⟨_,rfl,_,_,_,_,rfl,.lst hb,vK _,_,rfl,gq ?_⟩
    refine⟨_,rfl,_,_,_,_,rfl,.lst hb,vV _,_,rfl,gq ?_⟩
    refine⟨_,rfl,_,_,_,_,rfl,.lst hb,oE _ _,_,rfl,_,_,_,_,rfl,.lst ha,oE _ _,rfl,_,rfl,gq ?_⟩
    refine⟨_,rfl,_,_,_,_,rfl,.lst hb,jE _,_,rfl,_,_,_,_,rfl,.lst ha,jE _,rfl,_,rfl,gq ?_⟩
    refine⟨_,rfl,a,_,rfl,.inl (SqL.of ha),_,rfl,b,_,rfl,.inl (SqL.of hb),rfl,_,rfl,?_⟩
    have ec:decide (V.int (xs.length:Int)=V.int (ys.length:Int))=true:=decide_eq_true (by rw[ex,ey])
    rw[ec]
    refine jt ?_
    refine⟨_,rfl,b,_,rfl,.inl (SqL.of hb),_,rfl,by lia,by lia,fun D hD=>dm (lo:=0) (n:=ys.length) (fun i zs σ' H2=>(∃ v,σ'=[v,some (.ref a),some (.ref b)])/\zs=Qd i (V.bl true)/\aM H H2/\H2 D=some (.lst zs))
     ⟨⟨_,rfl⟩,rfl,au hD _,aj⟩ (fun i zs σ' H2 _ h=>h.2.2.2) ?_ ?_⟩
    ·rintro i zs σ' H2 hi ⟨⟨v,rfl⟩,rfl,sm,hDl⟩
     obtain⟨v1,d1,e1,e2,r1⟩:=ra.get (i:=i) (by lia)
     obtain⟨v2,d2,e3,e4,r2⟩:=rb.get (i:=i) hi
     rw[e2] at e4
     cases e4
     have at1:atI xs (0+(i:Int))=some v1:=by rw[Tp]; exact iB e1
     have at2:atI ys (0+(i:Int))=some v2:=by rw[Tp]; exact iB e3
     refine gT ?_
     refine⟨_,rfl,_,rfl,.inl ( ⟨a,xs,_,v1,rfl,rfl,SqL.of (sm _ _ ha),at1,_,rfl,_,rfl,.inl ( ⟨b,ys,_,v2,rfl,rfl,SqL.of (sm _ _ hb),at2,v1,v2,d1,rfl,r1.mono sm,r2.mono sm,?_,fun H3 s3=>⟨s3 _ _ hDl,?_,⟨_,rfl⟩,?_,aF (sm.trans s3) hD _,aj⟩⟩)⟩)⟩
     ·exact Uc (qt e2) hdl
     ·rw[Rf]
      exact Ql (show i < 100000 by lia) (by decide)
     ·rw[WQ]
    ·rintro zs σ' H2 ⟨_,rfl,sm,hDl⟩
     refine⟨D,Qd ys.length true,rfl,SqL.of (by rw[hDl,wk]),?_⟩
     rw[v7]
     exact q _ sm
theorem same_none:eX P w K mg base CX0 0 f fd ["_law_found","_law_due"] (pD 0):=by
 have no:∀ vs H Q E,¬ pD 0 vs H Q E:=fun vs H Q E h=>by
  obtain⟨x,y,d,_,_,_,h1,_⟩:=h
  lia
 exact⟨fun vs H Q E h=>absurd h (no vs H Q E),fun A outer s H args us vs Q E _ _ _ _ h=>absurd h (no vs H Q E)⟩
abbrev jm:Stmt:=top 30
theorem fO:aX ["_law_cell_here","_law_k","_law_rest","_law_turn"] ["_law_cell_here","_law_k"] (aJ jm):=⟨rfl,rfl,rfl,by decide+kernel,rfl,by decide+kernel,by decide+kernel⟩
def Ir (c:Int) (k:Nat):Int:=if decide ((if c < 0 then -c else c) < 10 ^ (18:Int).toNat)=true then (c * 48271+7919 * (k:Int)+13) % 2147483647 else 10 ^ (18:Int).toNat+divC ((if c < 0 then -c else c) - 10 ^ (18:Int).toNat) (Qd (k+1) (10 ^ (9:Int).toNat))
inductive wJ (vs:List V) (H:Hp) (Q:VK):Prop where
 | mk (c:Int) (k:Nat) (z0:vs=[.int c,.int (k:Int)]) (z1:k<=1000) (z2:Q (.int (Ir c k)) H):wJ  vs H Q
def qK:Sp:=fun vs H Q _=>wJ  vs H Q
theorem tR (F:Fun K "_law_under" "_law_under" jm f fd) (B:Bt mg) :
  eX P w K mg base CX0 1 f fd ["_law_cell_here","_law_k"] qK:=by
 refine F.ok fO (fun vs H Q E h=>?_) (fun cdv A outer s H vs Q E hr h=>?_)
 ·obtain⟨c,k,rfl,_⟩:=h
  rfl
 ·obtain⟨c,k,rfl,hk,q⟩:=h
  refine⟨_,(aA (cg (aV Cd (aK jC rfl B.abs_ rR (aa (pv 0) aq)) (aP nF aB aB) (bf _)) (aC (aL (aP cU (aP bT (aP bT (aP gJ (pv 0) aB) (aP gJ aB (pv 1))) aB) aB))) aW)
 (aA (aR (i:=2) fO.nd rfl (Qi rfl) (aP nG (aK jC rfl B.abs_ rR (aa (pv 0) aq)) (aP nF aB aB)))
 (aA (gK Ro rfl (cG rfl B.range_ (aa (aP bT (pv 1) aB) aq)) (aG (i:=3) fO.nd rfl (Qi rfl)) (aC (aR (i:=2) fO.nd rfl (Qi rfl) (aP vU (pv 2) (aP nF aB aB)))))
 (aC (aL (aP bT (aP nF aB aB) (pv 2))))))),?_⟩
  refine⟨_,rfl,_,rfl,_,_,rfl,rfl,⟨by decide,by decide,by decide⟩,_,_,rfl,rfl,_,rfl,?_⟩
  refine yP (fun h=>?_) (fun h=>?_)
  ·refine⟨_,rfl,_,_,rfl,rfl,.inr ⟨by decide,by decide⟩,_,rfl,_,_,rfl,rfl,.inl ⟨by decide,by decide⟩,_,_,rfl,rfl,_,_,rfl,rfl,_,_,rfl,rfl,(by show (0:Int) < 2147483647; decide),?_⟩
   unfold Ir at q
   rw[if_pos h] at q
   exact q
  ·unfold Ir at q
   rw[if_neg h] at q
   refine⟨_,rfl,_,rfl,_,_,rfl,rfl,⟨by decide,by decide,by decide⟩,_,_,rfl,rfl,?_⟩
   have ek:((k:Int)+1).toNat=k+1:=by lia
   refine⟨_,rfl,_,_,rfl,rfl,_,rfl,by lia,by lia,iw (lo:=0) (n:=((k:Int)+1).toNat) (fun i σ H2=>(∃ t:Option V,σ=[some (.int c),some (.int (k:Int)),some (.int (divC ((if c < 0 then -c else c) - 10 ^ (18:Int).toNat) (Qd i (10 ^ (9:Int).toNat)))),t])/\H2=H) ⟨⟨_,rfl⟩,rfl⟩ ?_ ?_⟩
   ·rintro i σ H2 hi ⟨⟨t,rfl⟩,rfl⟩
    refine⟨_,rfl,_,_,rfl,rfl,⟨by decide,by decide,by decide⟩,_,_,rfl,rfl,⟨by show (0:Int) < 10 ^ 9; decide,by show (10 ^ 9:Int) < 1073741824; decide⟩,⟨some (.int (0+(i:Int))),?_⟩,rfl⟩
    rw[WQ,jG]
    rfl
   ·rintro σ H2 ⟨⟨t,rfl⟩,rfl⟩
    refine⟨_,_,rfl,rfl,⟨by decide,by decide,by decide⟩,_,rfl,_,_,rfl,rfl,?_⟩
    rw[ek]
    exact q
abbrev jn:Stmt:=top 31
theorem fQ:aX ["_law_number","_law_n","_law_found","_law_one"] ["_law_number","_law_n"] (aJ jn):=⟨rfl,rfl,rfl,by decide+kernel,rfl,by decide+kernel,by decide+kernel⟩
inductive wW (vs:List V) (H:Hp) (Q:VK):Prop where
 | mk (m:Int) (n:Nat) (z0:vs=[.int m,.int (n:Int)]) (z1:n<=100) (z2:∀ (c:List Nat) (r:Addr) (H':Hp),(∀ i∈c,i < n)->c.Pairwise (· < ·)->c.length<=n->aM H H'->H r=none->H' r=some (.tup (c.map vN))->Q (.ref r) H'):wW  vs H Q
def vR:Sp:=fun vs H Q _=>wW  vs H Q
theorem tU (F:Fun K "_law_crowd" "_law_crowd" jn f fd) (B:Bt mg) :
  eX P w K mg base CX0 1 f fd ["_law_number","_law_n"] vR:=by
 refine F.ok fQ (fun vs H Q E h=>?_) (fun cdv A outer s H vs Q E hr h=>?_)
 ·obtain⟨m,n,rfl,_⟩:=h
  rfl
 ·obtain⟨m,n,rfl,hn,q⟩:=h
  refine⟨_,(aA (aR (i:=2) fQ.nd rfl (Qi rfl) (bK aq))
 (aA (gK Ro rfl (cG rfl B.range_ (aa (pv 1) aq)) (aG (i:=3) fQ.nd rfl (Qi rfl)) (aA (cg (aV gA (aP cU (pv 0) aB) aB (bf _)) (aC (gk (jX QB Rm Rk cM (pv 2) (aa (pv 3) aq)))) aW)
 (aC (aR (i:=0) fQ.nd rfl (Qi rfl) (aP vU (pv 0) aB)))))
 (aC (aL (bG (r:=fB K) bB rfl B.tuple_ bV (aa (pv 2) aq)))))),?_⟩
  refine⟨small (by show 0<=1000; decide),fun r hr0=>?_⟩
  have en:((n:Int)).toNat=n:=Qx n
  refine⟨_,rfl,_,rfl,by lia,by lia,iw (lo:=0) (n:=((n:Int)).toNat) (fun i σ H2=>∃ (z:Int) (t:Option V) (c:List Nat),σ=[some (.int z),some (.int (n:Int)),some (.ref r),t]/\H2=upd H r (.lst (c.map vN))/\(∀ j∈c,j < i)/\c.Pairwise (· < ·)/\c.length<=i)
   ⟨_,_,[],rfl,rfl,by simp,by simp,PK _⟩ ?_ ?_⟩
  ·rintro i σ H2 hi ⟨z,t,c,rfl,rfl,hc,hp,hl⟩
   refine⟨_,rfl,_,_,rfl,rfl,(by show (0:Int) < 2; decide),rfl,_,rfl,?_⟩
   refine yP (fun _=>?_) (fun _=>?_)
   ·refine⟨_,rfl,.inl ⟨rfl,_,SqL.of aj⟩,_,rfl,r,_,_,rfl,rfl,aj,?_,_,rfl,_,_,rfl,rfl,⟨by decide,by decide⟩,_,_,c++[i],rfl,?_,?_,?_,?_⟩
    ·rw[Pq]
     exact aD (by lia)
    ·rw[zQ,PJ,Tp]
     rfl
    ·intro j hj
     rcases List.mem_append.mp hj with h | h
     ·have:=hc j h
      lia
     ·have:=List.mem_singleton.mp h
      lia
    ·rw[List.pairwise_append]
     refine⟨hp,by simp,fun a ha b hb=>?_⟩
     rw[List.mem_singleton.mp hb]
     exact hc a ha
    ·rw[Qf]
     show c.length+1<=i+1
     lia
   ·refine⟨_,rfl,_,_,rfl,rfl,⟨by decide,by decide⟩,_,_,c,rfl,rfl,fun j hj=>Rv (hc j hj),hp,by lia⟩
  ·rintro σ H2 ⟨z,t,c,rfl,rfl,hc,hp,hl⟩
   refine⟨_,rfl,r,_,rfl,.inl ⟨SqL.of aj,fun l hl'=>?_⟩⟩
   rw[en] at hc hl
   exact q c l _ hc hp hl ((au hr0 _).trans (au hl' _)) ((au hr0 _).free hl') aj
inductive Tm where
 | free | never | gives (i:Nat) (k:Int) | sum (c:List Nat) (k:Int) | crowd (c:List Nat) (k m:Int) | all (ts:List Tm) | any (ts:List Tm)
mutual
def Tm.dep:Tm->Nat
 | .all ts=>tdL ts+1
 | .any ts=>tdL ts+1
 | _=>1
def tdL:List Tm->Nat
 | []=>0
 | t::r=>max t.dep (tdL r)
end
mutual
def hF (g:List Int):Tm->Bool
 | .free=>true
 | .never=>false
 | .gives i k=>decide (k<=g.getD i 0)
 | .sum c k=>decide (k<=(c.map fun i=>g.getD i 0).sum)
 | .crowd c k m=>decide (m<=((c.filter fun i=>decide (k<=g.getD i 0)).length:Int))
 | .all ts=>lR g ts
 | .any ts=>lO g ts
def lR (g:List Int):List Tm->Bool
 | []=>true
 | t::r=>hF g t && lR g r
def lO (g:List Int):List Tm->Bool
 | []=>false
 | t::r=>hF g t || lO g r
end
mutual
inductive iT (n:Nat) (H:Hp):V->Tm->Prop where
 | free {a:Addr}:H a=some (.tup [.str "free"])->iT n H (.ref a) .free
 | never {a:Addr}:H a=some (.tup [.str "never"])->iT n H (.ref a) .never
 | gives {a:Addr} {i:Nat} {k:Int}:H a=some (.tup [.str "gives",vN i,.int k])->i < n->1<=k->k<=9->iT n H (.ref a) (.gives i k)
 | sum {a b:Addr} {c:List Nat} {k:Int}:H a=some (.tup [.str "sum",.ref b,.int k])->H b=some (.tup (c.map vN))->(∀ i∈c,i < n)->c.Pairwise (· < ·)->c.length<=20->2<=c.length->1<=k->k<=99->iT n H (.ref a) (.sum c k)
 | crowd {a b:Addr} {c:List Nat} {k m:Int}:H a=some (.tup [.str "crowd",.ref b,.int k,.int m])->H b=some (.tup (c.map vN))->(∀ i∈c,i < n)->c.Pairwise (· < ·)->c.length<=20->1<=c.length->1<=k->k<=9->1<=m->m<=12->iT n H (.ref a) (.crowd c k m)
 | all {a b:Addr} {vs:List V} {ts:List Tm}:H a=some (.tup [.str "all",.ref b])->H b=some (.tup vs)->2<=vs.length->vs.length<=6->cZ n H vs ts->iT n H (.ref a) (.all ts)
 | any {a b:Addr} {vs:List V} {ts:List Tm}:H a=some (.tup [.str "any",.ref b])->H b=some (.tup vs)->2<=vs.length->vs.length<=6->cZ n H vs ts->iT n H (.ref a) (.any ts)
inductive cZ (n:Nat) (H:Hp):List V->List Tm->Prop where
 | nil:cZ n H [] []
 | cons {v:V} {t:Tm} {vs:List V} {ts:List Tm}:iT n H v t->cZ n H vs ts->cZ n H (v::vs) (t::ts)
end
mutual
theorem iT.bj {n:Nat} {H H':Hp} (e:∀ a xs,H a=some (HO.tup xs)->H' a=some (HO.tup xs)):∀ {v:V} {t:Tm},iT n H v t->iT n H' v t
 | _,_,.free h=>.free (e _ _ h)
 | _,_,.never h=>.never (e _ _ h)
 | _,_,.gives h a b c=>.gives (e _ _ h) a b c
 | _,_,.sum h h2 a b c d f g=>.sum (e _ _ h) (e _ _ h2) a b c d f g
 | _,_,.crowd h h2 a b c d f g i j=>.crowd (e _ _ h) (e _ _ h2) a b c d f g i j
 | _,_,.all h h2 a b r=>.all (e _ _ h) (e _ _ h2) a b (cZ.bj e r)
 | _,_,.any h h2 a b r=>.any (e _ _ h) (e _ _ h2) a b (cZ.bj e r)
theorem cZ.bj {n:Nat} {H H':Hp} (e:∀ a xs,H a=some (HO.tup xs)->H' a=some (HO.tup xs)):∀ {vs:List V} {ts:List Tm},cZ n H vs ts->cZ n H' vs ts
 | _,_,.nil=>.nil
 | _,_,.cons h r=>.cons (iT.bj e h) (cZ.bj e r)
end
theorem iT.mono {n:Nat} {H H':Hp} (e:aM H H') {v:V} {t:Tm} (h:iT n H v t):iT n H' v t:=h.bj fun a xs q=>e a _ q
theorem cZ.mono {n:Nat} {H H':Hp} (e:aM H H') {vs:List V} {ts:List Tm} (h:cZ n H vs ts):cZ n H' vs ts:=h.bj fun a xs q=>e a _ q
theorem cZ.length {n:Nat} {H:Hp}:∀ {vs:List V} {ts:List Tm},cZ n H vs ts->vs.length=ts.length
 | _,_,.nil=>rfl
 | _,_,.cons _ r=>by rw[Qk,Qk,cZ.length r]
theorem cZ.get {n:Nat} {H:Hp}:∀ {vs:List V} {ts:List Tm} {i:Nat} {v:V},cZ n H vs ts->vs[i]? = some v->∃ t,ts[i]? = some t/\iT n H v t
 | _,_,_,_,.nil,h=>by simp at h
 | _,_,0,_,.cons h _,e=>by
  cases (show some _=some _ from e)
  exact⟨_,rfl,h⟩
 | _,_,i+1,_,.cons _ r,e=>by
  obtain⟨t,e1,e2⟩:=cZ.get (i:=i) r (by simpa using e)
  exact⟨t,by simpa using e1,e2⟩
theorem cZ.snoc {n:Nat} {H:Hp}:∀ {vs:List V} {ts:List Tm} {v:V} {t:Tm},cZ n H vs ts->iT n H v t->cZ n H (vs++[v]) (ts++[t])
 | _,_,_,_,.nil,h=>.cons h .nil
 | _,_,_,_,.cons a r,h=>.cons a (cZ.snoc r h)
theorem nY:∀ {ts:List Tm} {i:Nat} {t:Tm},ts[i]? = some t->t.dep<=tdL ts
 | [],_,_,h=>by simp at h
 | d::r,0,_,h=>by
  cases (show some d=some _ from h)
  rw[tdL]
  exact Nat.le_max_left _ _
 | d::r,i+1,_,h=>by
  rw[tdL]
  exact Q0 (nY (i:=i) (ts:=r) (by simpa using h)) (Nat.le_max_right _ _)
theorem xM {m:Nat} {t:Tm} (h:t.dep<=m):∀ {ts:List Tm},tdL ts<=m->tdL (ts++[t])<=m
 | [],_=>by simp only[WK,tdL]; lia
 | d::r,h2=>by
  rw[tdL] at h2
  rw[List.cons_append,tdL]
  have:=xM (m:=m) h (ts:=r) (by lia)
  lia
theorem Tm.zZ:∀ t:Tm,1<=t.dep
 | .free | .never | .gives .. | .sum .. | .crowd ..=>PK 1
 | .all ts=>by rw[Tm.dep]; lia
 | .any ts=>by rw[Tm.dep]; lia
theorem qP:∀ {g:List Int} {ts:List Tm} {i:Nat} {t:Tm},ts[i]? = some t->lR g (ts.take (i+1))=(lR g (ts.take i) && hF g t)
 | _,[],_,_,h=>by simp at h
 | g,d::r,0,t,h=>by
  cases (show some d=some _ from h)
  rw[Tv,lR,Rt,Rt,lR,Bool.and_true,Bool.true_and]
 | g,d::r,i+1,t,h=>by
  rw[Tv,lR,qP (i:=i) (ts:=r) (by simpa using h),Tv,lR,Bool.and_assoc]
theorem rQ:∀ {g:List Int} {ts:List Tm} {i:Nat} {t:Tm},ts[i]? = some t->lO g (ts.take (i+1))=(lO g (ts.take i) || hF g t)
 | _,[],_,_,h=>by simp at h
 | g,d::r,0,t,h=>by
  cases (show some d=some _ from h)
  rw[Tv,lO,Rt,Rt,lO,Bool.or_false,W4]
 | g,d::r,i+1,t,h=>by
  rw[Tv,lO,rQ (i:=i) (ts:=r) (by simpa using h),Tv,lO,Bool.or_assoc]
theorem oX:∀ {g:List Int} {ts:List Tm} {i:Nat} {t:Tm},ts[i]? = some t->hF g t=false->lR g ts=false
 | _,[],_,_,h,_=>by simp at h
 | g,d::r,0,t,h,e=>by
  cases (show some d=some _ from h)
  rw[lR,e,Bool.false_and]
 | g,d::r,i+1,t,h,e=>by rw[lR,oX (i:=i) (ts:=r) (by simpa using h) e,Bool.and_false]
theorem rm:∀ {g:List Int} {ts:List Tm} {i:Nat} {t:Tm},ts[i]? = some t->hF g t=true->lO g ts=true
 | _,[],_,_,h,_=>by simp at h
 | g,d::r,0,t,h,e=>by
  cases (show some d=some _ from h)
  rw[lO,e,Bool.true_or]
 | g,d::r,i+1,t,h,e=>by rw[lO,rm (i:=i) (ts:=r) (by simpa using h) e,Bool.or_true]
def LeG (g g':List Int):Prop:=∀ i,g.getD i 0<=g'.getD i 0
theorem ph (f f':Nat->Int) (h:∀ i,f i<=f' i):∀ c:List Nat,(c.map f).sum<=(c.map f').sum
 | []=>Rx _
 | i::c=>by
  have:=ph f f' h c
  have:=h i
  simp only[QH,S5]
  lia
theorem filter_le (f f':Nat->Bool) (h:∀ i,f i=true->f' i=true):∀ c:List Nat,(c.filter f).length<=(c.filter f').length
 | []=>PK _
 | i::c=>by
  have ih:=filter_le f f' h c
  rw[Ss,Ss]
  by_cases e:f i=true
  ·rw[if_pos e,if_pos (h i e),Qk,Qk]
   lia
  ·rw[if_neg e]
   split
   ·rw[Qk]
    lia
   ·exact ih
mutual
theorem vg {g g':List Int} (l:LeG g g'):∀ t:Tm,hF g t=true->hF g' t=true
 | .free,_=>by rw[hF]
 | .never,h=>by rw[hF] at h; cases h
 | .gives i k,h=>by
  rw[hF] at h ⊢
  have:=of_decide_eq_true h
  have:=l i
  exact decide_eq_true (by lia)
 | .sum c k,h=>by
  rw[hF] at h ⊢
  have:=of_decide_eq_true h
  have:=ph _ _ l c
  exact decide_eq_true (by lia)
 | .crowd c k m,h=>by
  rw[hF] at h ⊢
  have:=of_decide_eq_true h
  have:=filter_le (fun i=>decide (k<=g.getD i 0)) (fun i=>decide (k<=g'.getD i 0)) (fun i e=>decide_eq_true (Int.le_trans (of_decide_eq_true e) (l i))) c
  exact decide_eq_true (by lia)
 | .all ts,h=>by
  rw[hF] at h ⊢
  exact tD l ts h
 | .any ts,h=>by
  rw[hF] at h ⊢
  exact rK l ts h
theorem tD {g g':List Int} (l:LeG g g'):∀ ts:List Tm,lR g ts=true->lR g' ts=true
 | [],_=>by rw[lR]
 | t::r,h=>by
  rw[lR,Ru] at h
  rw[lR,vg l t h.1,tD l r h.2]
  rfl
theorem rK {g g':List Int} (l:LeG g g'):∀ ts:List Tm,lO g ts=true->lO g' ts=true
 | [],h=>by rw[lO] at h; cases h
 | t::r,h=>by
  rw[lO,X6] at h
  rw[lO]
  rcases h with h | h
  ·rw[vg l t h,Bool.true_or]
  ·rw[rK l r h,Bool.or_true]
end
theorem lJ {c A B:Prop} [Decidable c] (hc:¬ c) (h:B):if decide c=true then A else B:=by
 rw[decide_eq_false hc]
 exact gq h
theorem Kd {c A B:Prop} [Decidable c] (hc:c) (h:A):if decide c=true then A else B:=by
 rw[decide_eq_true hc]
 exact jt h
theorem bZ {a b:Rr} (h:a≠b):¬ V.str a=V.str b:=fun z=>h (by cases z; rfl)
theorem atD {g:List Int} {i:Nat} (h:i < g.length):atI (g.map V.int) (i:Int)=some (.int (g.getD i 0)):=by
 rw[o5 h,Pz,Px h]
 rfl
abbrev kh:Stmt:=top 3
abbrev je:Stmt:=top 4
abbrev vA:Stmt:=top 5
theorem nD:aX ["parts","giving","part"] ["parts","giving"] (aJ kh):=⟨rfl,rfl,rfl,by decide+kernel,rfl,by decide+kernel,by decide+kernel⟩
theorem lK:aX ["parts","giving","part"] ["parts","giving"] (aJ je):=⟨rfl,rfl,rfl,by decide+kernel,rfl,by decide+kernel,by decide+kernel⟩
theorem wG:aX ["term","giving","kind"] ["term","giving"] (aJ vA):=⟨rfl,rfl,rfl,by decide+kernel,rfl,by decide+kernel,by decide+kernel⟩
inductive v8 (K:Qp) (d:Nat) (vs:List V) (H:Hp) (Q:VK):Prop where
 | mk (v:V) (g:Addr) (n:Nat) (t:Tm) (ns:List Int) (z0:vs=[v,.ref g]) (z1:iT n H v t) (z2:t.dep<=d) (z3:SqT K H g (ns.map V.int)) (z4:n<=ns.length) (z5:∀ H',aM H H'->Q (.bl (hF ns t)) H'):v8 K d vs H Q
def jd (K:Qp) (d:Nat):Sp:=fun vs H Q _=>v8 K d vs H Q
inductive Cw (K:Qp) (d:Nat) (vs:List V) (H:Hp) (Q:VK):Prop where
 | mk (b g:Addr) (n:Nat) (us:List V) (ts:List Tm) (ns:List Int) (z0:vs=[.ref b,.ref g]) (z1:H b=some (.tup us)) (z2:cZ n H us ts) (z3:tdL ts<=d) (z4:SqT K H g (ns.map V.int)) (z5:n<=ns.length) (z6:∀ H',aM H H'->Q (.bl (lR ns ts)) H'):Cw K d vs H Q
def GC (K:Qp) (d:Nat):Sp:=fun vs H Q _=>Cw K d vs H Q
inductive BK (K:Qp) (d:Nat) (vs:List V) (H:Hp) (Q:VK):Prop where
 | mk (b g:Addr) (n:Nat) (us:List V) (ts:List Tm) (ns:List Int) (z0:vs=[.ref b,.ref g]) (z1:H b=some (.tup us)) (z2:cZ n H us ts) (z3:tdL ts<=d) (z4:SqT K H g (ns.map V.int)) (z5:n<=ns.length) (z6:∀ H',aM H H'->Q (.bl (lO ns ts)) H'):BK K d vs H Q
def Ho (K:Qp) (d:Nat):Sp:=fun vs H Q _=>BK K d vs H Q
theorem xV:eX P w K mg base CX0 0 f fd ["term","giving"] (jd K 0):=by
 have no:∀ vs H Q E,¬ jd K 0 vs H Q E:=fun vs H Q E h=>by
  obtain⟨v,g,n,t,ns,_,_,h1,_⟩:=h
  have:=t.zZ
  lia
 exact⟨fun vs H Q E h=>absurd h (no vs H Q E),fun A outer s H args us vs Q E _ _ _ _ h=>absurd h (no vs H Q E)⟩
theorem gP {d k:Nat} (F:Fun K "all_hold" "all_hold" kh f fd) (B:Bt mg)
  (D_holds:Df P w K mg base "holds" k ["term","giving"] (jd K d)):eX P w K mg base CX0 (k+1) f fd ["parts","giving"] (GC K d):=by
 refine F.ok nD (fun vs H Q E h=>?_) (fun cdv A outer s H vs Q E hr h=>?_)
 ·obtain⟨b,g,n,us,ts,ns,rfl,_⟩:=h
  rfl
 ·obtain⟨b,g,n,us,ts,ns,rfl,hb,rp,hd,hg,hn,q⟩:=h
  refine⟨_,(aA (gK Ro rfl (iM (pv 0)) (aG (i:=2) nD.nd rfl (Qi rfl)) (aC (cg (oZ (iz (aY D_holds hr (aa (pv 2) (aa (pv 1) aq))))) (aC (aL jw)) aW)))
 (aC (aL jw))),?_⟩
  have el:=rp.length
  refine⟨_,rfl,b,rfl,⟨_,SqT.of hb⟩,u0 (K:=K) (a:=b) (xs:=us) (fun i σ H2=>(∃ u,σ=[some (.ref b),some (.ref g),u])/\aM H H2/\lR ns (ts.take i)=true) ⟨⟨_,rfl⟩,aM.refl H,by rw[Rt,lR]⟩ (fun i σ H2 _ h=>jB h.2.1 (SqT.of hb)) ?_ ?_⟩
  ·rintro i x σ H2 hx ⟨⟨u,rfl⟩,sm,ab⟩
   obtain⟨t,ht,rt⟩:=rp.get hx
   refine⟨_,rfl,_,rfl,x,g,n,t,ns,rfl,rt.mono sm,Q0 (nY ht) hd,jB sm hg,hn,fun H3 s3=>⟨_,rfl,?_⟩⟩
   cases e:hF ns t with
   | false =>
    have q':=q H3 (sm.trans s3)
    rw[oX ht e] at q'
    exact jt q'
   | true=>exact gq ⟨⟨_,rfl⟩,sm.trans s3,by rw[qP ht,ab,e]; rfl⟩
  ·rintro σ H2 ⟨⟨u,rfl⟩,sm,ab⟩
   have q':=q H2 sm
   rw[el,Qg] at ab
   rw[ab] at q'
   exact q'
theorem fU {d k:Nat} (F:Fun K "any_holds" "any_holds" je f fd) (B:Bt mg)
  (D_holds:Df P w K mg base "holds" k ["term","giving"] (jd K d)):eX P w K mg base CX0 (k+1) f fd ["parts","giving"] (Ho K d):=by
 refine F.ok lK (fun vs H Q E h=>?_) (fun cdv A outer s H vs Q E hr h=>?_)
 ·obtain⟨b,g,n,us,ts,ns,rfl,_⟩:=h
  rfl
 ·obtain⟨b,g,n,us,ts,ns,rfl,hb,rp,hd,hg,hn,q⟩:=h
  refine⟨_,(aA (gK Ro rfl (iM (pv 0)) (aG (i:=2) lK.nd rfl (Qi rfl)) (aC (cg (iz (aY D_holds hr (aa (pv 2) (aa (pv 1) aq)))) (aC (aL jw)) aW)))
 (aC (aL jw))),?_⟩
  have el:=rp.length
  refine⟨_,rfl,b,rfl,⟨_,SqT.of hb⟩,u0 (K:=K) (a:=b) (xs:=us) (fun i σ H2=>(∃ u,σ=[some (.ref b),some (.ref g),u])/\aM H H2/\lO ns (ts.take i)=false) ⟨⟨_,rfl⟩,aM.refl H,by rw[Rt,lO]⟩ (fun i σ H2 _ h=>jB h.2.1 (SqT.of hb)) ?_ ?_⟩
  ·rintro i x σ H2 hx ⟨⟨u,rfl⟩,sm,ab⟩
   obtain⟨t,ht,rt⟩:=rp.get hx
   refine⟨_,rfl,_,rfl,x,g,n,t,ns,rfl,rt.mono sm,Q0 (nY ht) hd,jB sm hg,hn,fun H3 s3=>⟨_,rfl,?_⟩⟩
   cases e:hF ns t with
   | true =>
    have q':=q H3 (sm.trans s3)
    rw[rm ht e] at q'
    exact jt q'
   | false=>exact gq ⟨⟨_,rfl⟩,sm.trans s3,by rw[rQ ht,ab,e]; rfl⟩
  ·rintro σ H2 ⟨⟨u,rfl⟩,sm,ab⟩
   have q':=q H2 sm
   rw[el,Qg] at ab
   rw[ab] at q'
   exact q'
theorem mq {d k:Nat} (F:Fun K "holds" "holds" vA f fd) (B:Bt mg)
  (D_all_hold:Df P w K mg base "all_hold" k ["parts","giving"] (GC K d)) (D_any_holds:Df P w K mg base "any_holds" k ["parts","giving"] (Ho K d)):eX P w K mg base CX0 (k+1) f fd ["term","giving"] (jd K (d+1)):=by
 refine F.ok wG (fun vs H Q E h=>?_) (fun cdv A outer s H vs Q E hr h=>?_)
 ·obtain⟨v,g,n,t,ns,rfl,_⟩:=h
  rfl
 ·obtain⟨v,g,n,t,ns,rfl,rt,hd,hg,hn,q⟩:=h
  refine⟨_,(aA (aR (i:=2) wG.nd rfl (Qi rfl) (bh (r:=jN K) bW (pv 0) aB (fun _ _=>rfl)))
 (aA (cg (aV gA (pv 2) cJ (bf _)) (aC (aL (gf yw (bh (r:=jN K) bW (pv 1) (bh (r:=jN K) bW (pv 0) aB (fun _ _=>rfl)) (fun _ _=>rfl)) (bh (r:=jN K) bW (pv 0) aB (fun _ _=>rfl)) (bf _)))) aW)
 (aA (cg (aV gA (pv 2) cJ (bf _)) (aC (aL (gf yw (aK (r:=Mj K) (zf rfl) rfl B.sum_ Lx (aa (bA (L:=["one"]) (F:=["giving"]) (cap:=[1]) rfl (bu rfl rfl (by kernel_rfl)) (iM (bh (r:=jN K) bW (pv 0) aB (fun _ _=>rfl))) (fun _ _ _ _ _=>(aG (i:=0) (aO (by decide+kernel)) rfl (Qi rfl))) (fun _ _ _ _ _=>bC) (fun _ _ _ _ _=>(bh (r:=jN K) bW (pv 1) (pv 0) (fun _ _=>rfl)))) aq)) (bh (r:=jN K) bW (pv 0) aB (fun _ _=>rfl)) (bf _)))) aW)
 (aA (cg (aV gA (pv 2) cJ (bf _)) (aC (aL (gf yw (aK (r:=yR K) cI rfl B.len_ ig (aa (bA (L:=["one"]) (F:=["giving","term"]) (cap:=[1,0]) rfl (bu rfl rfl (by kernel_rfl)) (iM (bh (r:=jN K) bW (pv 0) aB (fun _ _=>rfl))) (fun _ _ _ _ _=>(aG (i:=0) (aO (by decide+kernel)) rfl (Qi rfl))) (fun _ _ _ _ _=>(vp (aV yw (bh (r:=jN K) bW (pv 1) (pv 0) (fun _ _=>rfl)) (bh (r:=jN K) bW (pv 2) aB (fun _ _=>rfl)) (bf _)))) (fun _ _ _ _ _=>(pv 0))) aq)) (bh (r:=jN K) bW (pv 0) aB (fun _ _=>rfl)) (bf _)))) aW)
 (aA (cg (aV gA (pv 2) cJ (bf _)) (aC (aL (aY D_all_hold hr (aa (bh (r:=jN K) bW (pv 0) aB (fun _ _=>rfl)) (aa (pv 1) aq))))) aW)
 (aA (cg (aV gA (pv 2) cJ (bf _)) (aC (aL (aY D_any_holds hr (aa (bh (r:=jN K) bW (pv 0) aB (fun _ _=>rfl)) (aa (pv 1) aq))))) aW)
 (aC (aL (gf gA (pv 2) cJ (bf _)))))))))),?_⟩
  cases rt with
  | @free a ha =>
   refine⟨_,rfl,a,_,_,_,rfl,rfl,SqT.of ha,aU (k:=0) rfl,?_⟩
   refine⟨_,rfl,rfl,_,rfl,lJ (bZ (by decide)) ?_⟩
   refine⟨_,rfl,rfl,_,rfl,lJ (bZ (by decide)) ?_⟩
   refine⟨_,rfl,rfl,_,rfl,lJ (bZ (by decide)) ?_⟩
   refine⟨_,rfl,rfl,_,rfl,lJ (bZ (by decide)) ?_⟩
   refine⟨_,rfl,rfl,_,rfl,lJ (bZ (by decide)) ?_⟩
   refine⟨_,rfl,rfl,?_⟩
   have q':=q H (aM.refl H)
   rw[hF] at q'
   rw[decide_eq_true rfl]
   exact q'
  | @never a ha =>
   refine⟨_,rfl,a,_,_,_,rfl,rfl,SqT.of ha,aU (k:=0) rfl,?_⟩
   refine⟨_,rfl,rfl,_,rfl,lJ (bZ (by decide)) ?_⟩
   refine⟨_,rfl,rfl,_,rfl,lJ (bZ (by decide)) ?_⟩
   refine⟨_,rfl,rfl,_,rfl,lJ (bZ (by decide)) ?_⟩
   refine⟨_,rfl,rfl,_,rfl,lJ (bZ (by decide)) ?_⟩
   refine⟨_,rfl,rfl,_,rfl,lJ (bZ (by decide)) ?_⟩
   refine⟨_,rfl,rfl,?_⟩
   have q':=q H (aM.refl H)
   rw[hF] at q'
   rw[decide_eq_false (bZ (by decide))]
   exact q'
  | @gives a i k ha hi _ _ =>
   refine⟨_,rfl,a,_,_,_,rfl,rfl,SqT.of ha,aU (k:=0) rfl,?_⟩
   refine⟨_,rfl,rfl,_,rfl,Kd rfl ?_⟩
   refine⟨_,rfl,_,rfl,a,_,_,_,rfl,rfl,SqT.of ha,aU (k:=1) rfl,g,_,_,_,rfl,rfl,hg,atD (by lia),_,rfl,a,_,_,_,rfl,rfl,SqT.of ha,aU (k:=2) rfl,_,_,rfl,rfl,?_⟩
   have q':=q H (aM.refl H)
   rw[hF] at q'
   exact q'
  | @sum a b c k ha hb hc _ hl _ _ _ =>
   refine⟨_,rfl,a,_,_,_,rfl,rfl,SqT.of ha,aU (k:=0) rfl,?_⟩
   refine⟨_,rfl,rfl,_,rfl,lJ (bZ (by decide)) ?_⟩
   refine⟨_,rfl,rfl,_,rfl,Kd rfl ?_⟩
   refine⟨_,rfl,a,_,_,_,rfl,rfl,SqT.of ha,aU (k:=1) rfl,b,rfl,⟨_,SqT.of hb⟩,fun D hD=>fC (K:=K) (a:=b) (xs:=c.map vN) (fun i zs σ' H2=>(∃ u,σ'=[u,some (.ref g)])/\zs=((c.take i).map fun i=>ns.getD i 0).map V.int/\aM H H2/\H2 D=some (.lst zs))
    ⟨⟨_,rfl⟩,rfl,au hD _,aj⟩ (fun i zs σ' H2 _ h=>⟨jB h.2.2.1 (SqT.of hb),h.2.2.2⟩) ?_ ?_⟩
   ·rintro j zs x σ' H2 hx ⟨⟨u,rfl⟩,e1,sm,hDl⟩
    obtain⟨i,hi,rfl⟩:=rT hx
    have hin:i < n:=hc i (Qu hi)
    refine gT ?_
    refine⟨_,rfl,_,rfl,g,_,_,_,rfl,rfl,jB sm hg,atD (by lia),hDl,?_,⟨_,rfl⟩,?_,aF sm hD _,aj⟩
    ·rw[e1,Pq,Pq,Qh]
     exact aD (by lia)
    ·rw[e1,Qz,hi,PJ,PJ]
     rfl
   ·rintro zs σ' H2 ⟨⟨u,rfl⟩,e1,sm,hDl⟩
    rw[Pq,Qg] at e1
    refine⟨D,_,rfl,SqL.of (by rw[hDl,e1]),_,rfl,a,_,_,_,rfl,rfl,SqT.of (sm _ _ ha),aU (k:=2) rfl,_,_,rfl,rfl,?_⟩
    have q':=q H2 sm
    rw[hF] at q'
    exact q'
  | @crowd a b c k m ha hb hc _ hl _ _ _ _ _ =>
   refine⟨_,rfl,a,_,_,_,rfl,rfl,SqT.of ha,aU (k:=0) rfl,?_⟩
   refine⟨_,rfl,rfl,_,rfl,lJ (bZ (by decide)) ?_⟩
   refine⟨_,rfl,rfl,_,rfl,lJ (bZ (by decide)) ?_⟩
   refine⟨_,rfl,rfl,_,rfl,Kd rfl ?_⟩
   refine⟨_,rfl,a,_,_,_,rfl,rfl,SqT.of ha,aU (k:=1) rfl,b,rfl,⟨_,SqT.of hb⟩,fun D hD=>fC (K:=K) (a:=b) (xs:=c.map vN) (fun i zs σ' H2=>(∃ u,σ'=[u,some (.ref g),some (.ref a)])/\zs=((c.take i).filter fun i=>decide (k<=ns.getD i 0)).map vN/\aM H H2/\H2 D=some (.lst zs))
    ⟨⟨_,rfl⟩,rfl,au hD _,aj⟩ (fun i zs σ' H2 _ h=>⟨jB h.2.2.1 (SqT.of hb),h.2.2.2⟩) ?_ ?_⟩
   ·rintro j zs x σ' H2 hx ⟨⟨u,rfl⟩,e1,sm,hDl⟩
    obtain⟨i,hi,rfl⟩:=rT hx
    have hin:i < n:=hc i (Qu hi)
    have et:c.take (j+1)=c.take j++[i]:=by rw[Qz,hi]; rfl
    refine⟨_,rfl,_,rfl,g,_,_,_,rfl,rfl,jB sm hg,atD (by lia),_,rfl,a,_,_,_,rfl,rfl,SqT.of (sm _ _ ha),aU (k:=2) rfl,_,_,rfl,rfl,_,rfl,?_⟩
    refine yP (fun cc=>?_) (fun cc=>?_)
    ·refine⟨_,rfl,hDl,?_,⟨_,rfl⟩,?_,aF sm hD _,aj⟩
     ·rw[e1,Pq]
      have:=Tc (fun i=>decide (k<=ns.getD i 0)) (c.take j)
      rw[Qh] at this
      exact aD (by lia)
     ·rw[e1,et,V6,PJ,Ss,if_pos cc]
      rfl
    ·refine⟨⟨_,rfl⟩,?_,sm,hDl⟩
     rw[e1,et,V6,Ss,if_neg cc]
     simp
   ·rintro zs σ' H2 ⟨⟨u,rfl⟩,e1,sm,hDl⟩
    rw[Pq,Qg] at e1
    refine⟨D,_,rfl,.inl (SqL.of (by rw[hDl,e1])),_,rfl,a,_,_,_,rfl,rfl,SqT.of (sm _ _ ha),aU (k:=3) rfl,_,_,rfl,rfl,?_⟩
    have q':=q H2 sm
    rw[hF] at q'
    rw[Pq]
    exact q'
  | @all a b us ts ha hb _ _ rl =>
   refine⟨_,rfl,a,_,_,_,rfl,rfl,SqT.of ha,aU (k:=0) rfl,?_⟩
   refine⟨_,rfl,rfl,_,rfl,lJ (bZ (by decide)) ?_⟩
   refine⟨_,rfl,rfl,_,rfl,lJ (bZ (by decide)) ?_⟩
   refine⟨_,rfl,rfl,_,rfl,lJ (bZ (by decide)) ?_⟩
   refine⟨_,rfl,rfl,_,rfl,Kd rfl ?_⟩
   refine⟨_,rfl,a,_,_,_,rfl,rfl,SqT.of ha,aU (k:=1) rfl,_,rfl,b,g,n,us,ts,ns,rfl,hb,rl,?_,hg,hn,fun H' s'=>?_⟩
   ·rw[Tm.dep] at hd
    lia
   ·have q':=q H' s'
    rw[hF] at q'
    exact q'
  | @any a b us ts ha hb _ _ rl =>
   refine⟨_,rfl,a,_,_,_,rfl,rfl,SqT.of ha,aU (k:=0) rfl,?_⟩
   refine⟨_,rfl,rfl,_,rfl,lJ (bZ (by decide)) ?_⟩
   refine⟨_,rfl,rfl,_,rfl,lJ (bZ (by decide)) ?_⟩
   refine⟨_,rfl,rfl,_,rfl,lJ (bZ (by decide)) ?_⟩
   refine⟨_,rfl,rfl,_,rfl,lJ (bZ (by decide)) ?_⟩
   refine⟨_,rfl,rfl,_,rfl,Kd rfl ?_⟩
   refine⟨_,rfl,a,_,_,_,rfl,rfl,SqT.of ha,aU (k:=1) rfl,_,rfl,b,g,n,us,ts,ns,rfl,hb,rl,?_,hg,hn,fun H' s'=>?_⟩
   ·rw[Tm.dep] at hd
    lia
   ·have q':=q H' s'
    rw[hF] at q'
    exact q'
theorem jc {t u:TS} {D:Ends} {σ:St} {H:Hp} (P:St->Hp->Prop) (h2:∀ σ H,P σ H->u D σ H) (h1:∀ N:St->Hp->Prop,(∀ σ H,P σ H->N σ H)->t { D with nx:=N } σ H):Dt t u D σ H:=h1 (u D) h2
theorem qN {A B:TT} {t u:TS} {D:Ends} {σ:St} {H:Hp} (b1 b2:Bool) (R:Hp->Prop) (hA:∀ Q:Bool->Hp->Prop,(∀ H1,R H1->Q b1 H1)->A σ H Q) (hB:∀ H1,R H1->∀ Q:Bool->Hp->Prop,Q b2 H1->B σ H1 Q)
  (ht:∀ H1,R H1->b1=true->b2=true->t D σ H1) (hu:∀ H1,R H1->(b1=true->b2=false)->u D σ H1):El (Oc A B) t u D σ H:=by
 refine hA _ fun H1 r1=>?_
 show if b1=true then B σ H1 (fun b H2=>if b=true then t D σ H2 else u D σ H2) else (if false=true then t D σ H1 else u D σ H1)
 cases b1 with
 | false=>exact gq (gq (hu H1 r1 fun z=>by cases z))
 | true =>
  refine jt (hB H1 r1 _ ?_)
  cases b2 with
  | false=>exact gq (hu H1 r1 fun _=>rfl)
  | true=>exact jt (ht H1 r1 rfl rfl)
theorem gN {i:Nat} {x:V} {σ:St} {H:Hp} {P:St->Hp->Prop} (h:P (σ.set i (some x)) H):Gb i x σ H P:=h
theorem nN {D:Ends} {σ:St} {H:Hp} (h:D.nx σ H):Ma D σ H:=h
abbrev kZ:Stmt:=top 32
theorem fL:aX ["_law_cell_here","_law_n","_law_deep","_law_most","_law_drawn","_law_parts","_law_crowd_here"] ["_law_cell_here","_law_n","_law_deep","_law_most"] (aJ kZ):=⟨rfl,rfl,rfl,by decide+kernel,rfl,by decide+kernel,by decide+kernel⟩
inductive Ak (d:Nat) (vs:List V) (H:Hp) (Q:VK):Prop where
 | mk (c:Int) (n:Nat) (deep most:Int) (z0:vs=[.int c,.int (n:Int),.int deep,.int most]) (z1:1<=n) (z2:n<=12) (z3:1<=deep) (z4:deep<=(d:Int)) (z5:1<=most) (z6:most<=9) (z7:∀ (v:V) (t:Tm) (H':Hp),aM H H'->iT n H' v t->(t.dep:Int)<=deep->Q v H'):Ak d vs H Q
def pB (d:Nat):Sp:=fun vs H Q _=>Ak d vs H Q
theorem term_none:eX P w K mg base CX0 1 f fd ["_law_cell_here","_law_n","_law_deep","_law_most"] (pB 0):=by
 have no:∀ vs H Q E,¬ pB 0 vs H Q E:=fun vs H Q E h=>by
  obtain⟨c,n,deep,most,_,_,_,h1,h2,_⟩:=h
  lia
 exact⟨fun vs H Q E h=>absurd h (no vs H Q E),fun A outer s H args us vs Q E _ _ _ _ h=>absurd h (no vs H Q E)⟩
theorem jh {d:Nat} (F:Fun K "_law_term" "_law_term" kZ f fd) (B:Bt mg)
  (D_law_draws:Df P w K mg base "_law_draws" 1 ["_law_cell_here","_law_parts"] (jb K)) (D_law_under:Df P w K mg base "_law_under" 1 ["_law_cell_here","_law_k"] qK) (D_law_crowd:Df P w K mg base "_law_crowd" 1 ["_law_number","_law_n"] vR)
  (D_law_term:Df P w K mg base "_law_term" (d+1) ["_law_cell_here","_law_n","_law_deep","_law_most"] (pB d)):eX P w K mg base CX0 (d+2) f fd ["_law_cell_here","_law_n","_law_deep","_law_most"] (pB (d+1)):=by
 refine F.ok fL (fun vs H Q E h=>?_) (fun cdv A outer s H vs Q E hr h=>?_)
 ·obtain⟨c,n,deep,most,rfl,_⟩:=h
  rfl
 ·obtain⟨c,n,deep,most,rfl,n1,n12,de1,ded,m1,m9,q⟩:=h
  refine⟨_,(aA (aR (i:=4) fL.nd rfl (Qi rfl) (aY D_law_draws hr (aa (pv 0) (aa (bK (aa aB (aa aB (aa aB (aa aB (aa aB aq)))))) aq))))
 (aA (cg (PW.pt (sI (aV Cd (bh (r:=fX K) aQ (pv 4) aB (fun _ _=>rfl)) aB (bf _)) (m5 (aV vH (pv 2) aB (bf _))))) (aA (zj (L:=["_law_k"]) (F:=["_law_n","_law_most","_law_cell_here","_law_deep"]) (cap:=[1,3,0,2]) (j:=5) fL.nd rfl (Qi rfl) rfl (bu rfl rfl (by kernel_rfl)) (cG rfl B.range_ (aa (aP bT aB (aP cU (bh (r:=fX K) aQ (pv 4) aB (fun _ _=>rfl)) aB)) aq)) (fun _ _ _ _ _=>(aG (i:=0) (aO (by decide+kernel)) rfl (Qi rfl))) (fun _ _ _ _ _=>bC) (fun _ _ _ _ _=>(aY D_law_term hr (aa (aY D_law_under hr (aa (pv 3) (aa (pv 0) aq))) (aa (pv 1) (aa (aP nG (pv 4) aB) (aa (pv 2) aq)))))))
 (aC (aL (bQ (aa (bh (r:=fX K) aQ (bK (aa cJ (aa cJ aq))) (bh (r:=fX K) aQ (pv 4) aB (fun _ _=>rfl)) (fun _ _=>rfl)) (aa (bG (r:=fB K) bB rfl B.tuple_ bV (aa (pv 5) aq)) aq)))))) aW)
 (aA (aR (i:=6) fL.nd rfl (Qi rfl) (aY D_law_crowd hr (aa (bh (r:=fX K) aQ (pv 4) aB (fun _ _=>rfl)) (aa (pv 1) aq))))
 (aA (cg (aV (r:=Ga K) (vO hr.mF) (pv 6) (bQ aq) (bf _)) (aC (aR (i:=6) fL.nd rfl (Qi rfl) (bQ (aa (aP cU (bh (r:=fX K) aQ (pv 4) aB (fun _ _=>rfl)) (pv 1)) aq)))) aW)
 (aA (cg (PW.pt (sI (aV (r:=rIn K false) jF (bh (r:=fX K) aQ (pv 4) aB (fun _ _=>rfl)) (bQ (aa aB (aa aB aq))) rfl) (m5 (aV vH (aK (r:=yR K) cI rfl B.len_ ig (aa (pv 6) aq)) aB (bf _))))) (aC (aL (bQ (aa cJ (aa (pv 6) (aa (aP bT aB (aP cU (aP bT (aP gJ aB (bh (r:=fX K) aQ (pv 4) aB (fun _ _=>rfl))) (bh (r:=fX K) aQ (pv 4) aB (fun _ _=>rfl))) (aK (qY rfl) rfl B.min_ GK (aa aB (aa (aP gJ (pv 3) (aK (r:=yR K) cI rfl B.len_ ig (aa (pv 6) aq))) aq))))) aq)))))) aW)
 (aA (cg (aV gA (bh (r:=fX K) aQ (pv 4) aB (fun _ _=>rfl)) aB (bf _)) (aC (aL (bQ (aa cJ (aa (pv 6) (aa (aP bT aB (aP cU (bh (r:=fX K) aQ (pv 4) aB (fun _ _=>rfl)) (pv 3))) (aa (aP bT aB (aP cU (bh (r:=fX K) aQ (pv 4) aB (fun _ _=>rfl)) (aK (r:=yR K) cI rfl B.len_ ig (aa (pv 6) aq)))) aq))))))) aW)
 (aA (cg (aV gA (bh (r:=fX K) aQ (pv 4) aB (fun _ _=>rfl)) aB (bf _)) (aC (aL (bQ (aa (bh (r:=fX K) aQ (bK (aa cJ (aa cJ (aa cJ aq)))) (aP cU (bh (r:=fX K) aQ (pv 4) aB (fun _ _=>rfl)) aB) (fun _ _=>rfl)) aq)))) aW)
 (aC (aL (bQ (aa cJ (aa (aP cU (bh (r:=fX K) aQ (pv 4) aB (fun _ _=>rfl)) (pv 1)) (aa (aP bT aB (aP cU (bh (r:=fX K) aQ (pv 4) aB (fun _ _=>rfl)) (pv 3))) aq))))))))))))),?_⟩
  refine⟨_,rfl,small (by show 5<=1000; decide),fun p1 h1=>?_⟩
  generalize eH1:upd H p1 _=H1
  obtain⟨g1,e1⟩:=aH eH1 h1
  refine⟨c,p1,[9,12,9,4096,12],rfl,SqL.of e1,by decide,by decide,fun p2 h2=>?_⟩
  generalize eH2:upd H1 p2 _=H2
  obtain⟨g2,e2⟩:=aH eH2 h2
  have hps:∀ q∈([9,12,9,4096,12]:List Int),0 < q:=by decide
  obtain⟨d0,k0,b0⟩:=bL (c:=jW c) (i:=0) hps rfl
  obtain⟨d1,k1,b1⟩:=bL (c:=jW c) (i:=1) hps rfl
  obtain⟨d2,k2,b2⟩:=bL (c:=jW c) (i:=2) hps rfl
  obtain⟨d3,k3,b3⟩:=bL (c:=jW c) (i:=3) hps rfl
  obtain⟨d4,k4,b4⟩:=bL (c:=jW c) (i:=4) hps rfl
  have a0:=aU (dU k0)
  have a1:=aU (dU k1)
  have a2:=aU (dU k2)
  have a3:=aU (dU k3)
  have a4:=aU (dU k4)
  change _=some (HO.lst ((uw (jW c) [9,12,9,4096,12]).map V.int)) at e2
  generalize uw (jW c) [9,12,9,4096,12]=ds at *
  have gH:aM H H2:=g1.trans g2
  refine gN ?_
  dsimp only
  show Dt (El _ _ _) _ _ _ _
  refine jc (fun σ H3=>σ=[some (.int c),some (.int (n:Int)),some (.int deep),some (.int most),some (.ref p2),none,none]/\H2=H3) ?rest (fun _ R=>?_)
  case rest =>
   rintro σ H3 ⟨rfl,rfl⟩
   refine⟨_,rfl,p2,_,_,_,rfl,rfl,SqL.of e2,a3,_,rfl,d3,n,rfl,by lia,fun cs r3 H3 hc hp hl s3 f3 e3=>?_⟩
   refine gN ?_
   dsimp only
   show Dt (El _ _ _) _ _ _ _
   refine jc (fun σ H5=>∃ (rc:Addr) (cs:List Nat),σ=[some (.int c),some (.int (n:Int)),some (.int deep),some (.int most),some (.ref p2),none,some (.ref rc)]/\aM H2 H5/\H5 rc=some (.tup (cs.map vN))/\(∀ i∈cs,i < n)/\cs.Pairwise (· < ·)/\cs.length<=n/\1<=cs.length) ?rest2 (fun _ R=>?_)
   case rest2 =>
    rintro σ H5 ⟨rc,cs,rfl,s5,e5,hc,hp,hl,h1l⟩
    have e2':=s5 _ _ e2
    have lenr:((cs.map vN).length:Int)=(cs.length:Int):=by rw[Pq]
    show Dt (El _ _ _) _ _ _ _
    refine jc (fun σ H6=>σ=[some (.int c),some (.int (n:Int)),some (.int deep),some (.int most),some (.ref p2),none,some (.ref rc)]/\aM H5 H6) ?rest3 (fun _ R=>?_)
    case rest3 =>
     rintro σ H6 ⟨rfl,s6⟩
     have e2':=s6 _ _ e2'
     have e5:=s6 _ _ e5
     have s56:aM H H6:=gH.trans (s5.trans s6)
     refine⟨_,rfl,p2,_,_,_,rfl,rfl,SqL.of e2',a0,rfl,_,rfl,?_⟩
     refine yP (fun _=>?_) (fun _=>?_)
     ·refine⟨_,rfl,_,rfl,p2,_,_,_,rfl,rfl,SqL.of e2',a2,_,rfl,_,_,rfl,rfl,(by show (0:Int) < most; lia),_,_,rfl,rfl,?_⟩
      refine⟨_,rfl,p2,_,_,_,rfl,rfl,SqL.of e2',a4,_,rfl,rc,_,rfl,.inr (SqT.of e5),_,_,rfl,rfl,?_,_,_,rfl,rfl,small (by show 4<=1000; decide),fun p7 h7=>?_⟩
      ·rw[lenr]
       lia
      ·have u1:0<=d2 % most:=Ri _ (by lia)
       have u2:d2 % most < most:=QL _ (by lia)
       have u3:0<=d4 % ((cs.map vN).length:Int):=Ri _ (by rw[lenr]; lia)
       have u4:d4 % ((cs.map vN).length:Int) < (cs.length:Int):=by
        have:=QL d4 (b:=((cs.map vN).length:Int)) (by rw[lenr]; lia)
        rw[lenr] at this ⊢
        exact this
       refine q (.ref p7) (.crowd cs (1+d2 % most) (1+d4 % ((cs.map vN).length:Int))) _ (s56.trans (au h7 _)) (.crowd aj (au h7 _ _ _ e5) hc hp (by lia) h1l (by lia) (by lia) (by lia) (by lia)) ?_
       exact de1
     ·refine⟨_,rfl,p2,_,_,_,rfl,rfl,SqL.of e2',a0,rfl,_,rfl,?_⟩
      refine yP (fun _=>?_) (fun _=>?_)
      ·refine⟨small (by show 3<=1000; decide),fun p7 h7=>?_⟩
       generalize eH7:upd H6 p7 _=H7
       obtain⟨g7,e7⟩:=aH eH7 h7
       have u1:0<=d1 % 3:=Ri _ (by lia)
       have u2:d1 % 3 < 3:=QL _ (by lia)
       have fin:∀ p8 (x:Rr),H7 p8=none->(x = "free"∨x = "never")->Q (.ref p8) (upd H7 p8 (.tup [.str x])):=fun p8 x h8 hx=>by
        rcases hx with rfl | rfl
        ·refine q (.ref p8) .free _ (s56.trans (g7.trans (au h8 _))) (.free aj) ?_
         exact de1
        ·refine q (.ref p8) .never _ (s56.trans (g7.trans (au h8 _))) (.never aj) ?_
         exact de1
       refine⟨_,rfl,p2,_,_,_,rfl,rfl,SqL.of (g7 _ _ e2'),a1,_,_,rfl,rfl,(by show (0:Int) < 3; decide),?_⟩
       rcases (show d1 % 3=0∨d1 % 3=1∨d1 % 3=2 by lia) with z | z | z
       ·exact⟨p7,_,_,_,rfl,rfl,SqL.of e7,by rw[z]; rfl,small (by show 1<=1000; decide),fun p8 h8=>fin p8 _ h8 (.inl rfl)⟩
       ·exact⟨p7,_,_,_,rfl,rfl,SqL.of e7,by rw[z]; rfl,small (by show 1<=1000; decide),fun p8 h8=>fin p8 _ h8 (.inl rfl)⟩
       ·exact⟨p7,_,_,_,rfl,rfl,SqL.of e7,by rw[z]; rfl,small (by show 1<=1000; decide),fun p8 h8=>fin p8 _ h8 (.inr rfl)⟩
      ·have u1:0<=d1 % (n:Int):=Ri _ (by lia)
       have u2:d1 % (n:Int) < (n:Int):=QL _ (by lia)
       have u3:0<=d2 % most:=Ri _ (by lia)
       have u4:d2 % most < most:=QL _ (by lia)
       refine⟨_,rfl,p2,_,_,_,rfl,rfl,SqL.of e2',a1,_,rfl,_,_,rfl,rfl,(by show (0:Int) < (n:Int); lia),?_⟩
       refine⟨_,rfl,p2,_,_,_,rfl,rfl,SqL.of e2',a2,_,rfl,_,_,rfl,rfl,(by show (0:Int) < most; lia),_,_,rfl,rfl,small (by show 3<=1000; decide),fun p7 h7=>?_⟩
       obtain⟨i,hi⟩:=TV u1
       rw[hi] at u2
       refine q (.ref p7) (.gives i (1+d2 % most)) _ (s56.trans (au h7 _)) (.gives (aj.trans (by show some (HO.tup [V.str "gives",V.int (d1 % (n:Int)),V.int (1+d2 % most)])=some (HO.tup [V.str "gives",V.int (i:Int),V.int (1+d2 % most)]); rw[hi])) (by lia) (by lia) (by lia)) ?_
       exact de1
    ·refine qN (inV (.int d0) [.int 3,.int 4]) (decide (1 < (cs.length:Int))) (fun H6=>aM H5 H6) (fun Q' hQ=>?_) (fun H6 s6 Q' hQ=>?_) (fun H6 s6 _ hl2=>?_) (fun H6 s6 _=>R _ _ ⟨rfl,s6⟩)
     ·refine⟨_,rfl,p2,_,_,_,rfl,rfl,SqL.of e2',a0,small (by show 2<=1000; decide),fun p6 h6=>⟨p6,_,rfl,.inr (SqT.of aj),rfl,rfl,_,rfl,hQ _ (au h6 _)⟩⟩
     ·refine⟨_,rfl,rc,_,rfl,.inr (SqT.of (s6 _ _ e5)),_,_,rfl,rfl,_,rfl,?_⟩
      rw[lenr]
      exact hQ
     ·have e2':=s6 _ _ e2'
      have e5:=s6 _ _ e5
      have s56:aM H H6:=gH.trans (s5.trans s6)
      have hl3:(1:Int) < (cs.length:Int):=of_decide_eq_true hl2
      refine⟨_,rfl,_,rfl,p2,_,_,_,rfl,rfl,SqL.of e2',a1,_,_,rfl,rfl,.inl ⟨by decide,by decide⟩,_,rfl,p2,_,_,_,rfl,rfl,SqL.of e2',a2,_,_,rfl,rfl,?_⟩
      refine⟨_,rfl,_,rfl,rc,_,rfl,.inr (SqT.of e5),_,_,rfl,rfl,.inl ⟨by lia,by lia⟩,_,_,rfl,?_⟩
      have pz:0 < most * ((cs.map vN).length:Int):=by
       rw[lenr]
       exact Int.mul_pos (by lia) (by lia)
      generalize hz:(if most * ((cs.map vN).length:Int) < 99 then most * ((cs.map vN).length:Int) else 99)=z
      have z1:0 < z:=by
       rw[← hz]
       split <;> lia
      have z2:z<=99:=by
       rw[← hz]
       split <;> lia
      have u3:0<=(9 * d1+d2) % z:=Ri _ (by lia)
      have u4:(9 * d1+d2) % z < z:=QL _ z1
      refine⟨_,_,rfl,rfl,z1,_,_,rfl,rfl,small (by show 3<=1000; decide),fun p7 h7=>?_⟩
      refine q (.ref p7) (.sum cs (1+(9 * d1+d2) % z)) _ (s56.trans (au h7 _)) (.sum aj (au h7 _ _ _ e5) hc hp (by lia) (by lia) (by lia) (by lia)) ?_
      exact de1
   ·refine⟨_,rfl,small (by show 0<=1000; decide),fun p4 h4=>?_⟩
    have e3':SqT K H3 r3 ((cs.map fun i:Nat=>(i:Int)).map V.int):=by rw[← eF]; exact SqT.of e3
    have g4:aM H3 (upd H3 p4 (.tup [])):=au h4 _
    refine⟨r3,p4,cs.map (fun i:Nat=>(i:Int)),[],rfl,rfl,jB g4 e3',SqT.of aj,_,rfl,?_⟩
    refine yP (fun ce=>?_) (fun ce=>?_)
    ·have u1:0<=d4 % (n:Int):=Ri _ (by lia)
     have u2:d4 % (n:Int) < (n:Int):=QL _ (by lia)
     refine⟨_,rfl,p2,_,_,_,rfl,rfl,SqL.of (g4 _ _ (s3 _ _ e2)),a4,_,rfl,_,_,rfl,rfl,(by show (0:Int) < (n:Int); lia),small (by show 1<=1000; decide),fun p5 h5=>?_⟩
     obtain⟨i,hi⟩:=TV u1
     rw[hi] at u2
     refine R _ _ ⟨p5,[i],rfl,s3.trans (g4.trans (au h5 _)),aj.trans (by show some (HO.tup [V.int (d4 % (n:Int))])=some (HO.tup [V.int (i:Int)]); rw[hi]),?_,by simp,n1,PK _⟩
     intro j hj
     rw[Ud] at hj
     lia
    ·refine R _ _ ⟨r3,cs,rfl,s3.trans g4,g4 _ _ e3,hc,hp,hl,?_⟩
     cases cs with
     | nil=>exact absurd (decide_eq_true rfl) ce
     | cons x xs=>rw[Qk]; lia
  ·refine qN (decide (d0 < 2)) (decide (1 < deep)) (fun H3=>H2=H3) (fun Q' hQ=>?_) (fun H3 e Q' hQ=>?_) (fun H3 e c1 c2=>?_) (fun H3 e _=>R _ _ ⟨rfl,e⟩)
   ·exact⟨_,rfl,p2,_,_,_,rfl,rfl,SqL.of e2,a0,_,_,rfl,rfl,_,rfl,hQ _ rfl⟩
   ·exact⟨_,rfl,_,_,rfl,rfl,_,rfl,hQ⟩
   ·subst e
    have c1:d0 < 2:=of_decide_eq_true c1
    have c2:1 < deep:=of_decide_eq_true c2
    have u1:0<=d4 % 5:=Ri _ (by lia)
    have u2:d4 % 5 < 5:=QL _ (by lia)
    refine⟨_,rfl,p2,_,_,_,rfl,rfl,SqL.of e2,a4,_,_,rfl,rfl,(by show (0:Int) < 5; decide),_,_,rfl,rfl,_,rfl,by lia,by lia,fun D hD=>dm (lo:=0) (n:=(2+d4 % 5).toNat)
     (fun i zs σ' H5=>(∃ u,σ'=[u,some (.int (n:Int)),some (.int most),some (.int c),some (.int deep)])/\aM H2 H5/\H5 D=some (.lst zs)/\zs.length=i/\∃ ts,cZ n H5 zs ts/\(tdL ts:Int)<=deep - 1)
     ⟨⟨_,rfl⟩,au hD _,aj,rfl,[],.nil,by rw[tdL]; lia⟩ (fun i zs σ' H5 _ h=>h.2.2.1) ?_ ?_⟩
    ·rintro i zs σ' H5 hi ⟨⟨u,rfl⟩,s5,eD,lz,ts,rt,td⟩
     refine gT ?_
     refine⟨_,rfl,_,rfl,c,i,by rw[Tp]; rfl,by lia,_,rfl,_,rfl,_,_,rfl,rfl,_,rfl,Ir c i,n,deep - 1,most,rfl,n1,n12,by lia,by lia,m1,m9,fun v t H6 s6 r6 d6=>?_⟩
     refine⟨s6 _ _ eD,?_,⟨_,rfl⟩,aF (s5.trans s6) hD _,aj,?_,ts++[t],?_,?_⟩
     ·exact aD (by lia)
     ·rw[Qf,lz]
      rfl
     ·have s7:=bR (zs':=zs++[v]) (s6 _ _ eD)
      exact ((rt.mono s6).bj s7).snoc (r6.bj s7)
     ·have:=xM (m:=(deep - 1).toNat) (t:=t) (by lia) (ts:=ts) (by lia)
      lia
    ·rintro zs σ' H5 ⟨⟨u,rfl⟩,s5,eD,lz,ts,rt,td⟩
     refine⟨small (by show 2<=1000; decide),fun p6 h6=>?_⟩
     generalize eH6:upd H5 p6 _=H6
     obtain⟨g6,e6⟩:=aH eH6 h6
     refine⟨_,rfl,p2,_,_,_,rfl,rfl,SqL.of (g6 _ _ (s5 _ _ e2)),a0,?_⟩
     rcases (show d0=0∨d0=1 by lia) with z | z
     ·subst z
      refine⟨p6,_,_,_,rfl,rfl,SqL.of e6,rfl,_,rfl,D,_,rfl,.inl ⟨SqL.of (g6 _ _ eD),fun p7 h7=>?_⟩⟩
      generalize eH7:upd H6 p7 _=H7
      obtain⟨g7,e7⟩:=aH eH7 h7
      refine⟨small (by show 2<=1000; decide),fun p8 h8=>?_⟩
      refine q (.ref p8) (.all ts) _ (gH.trans (s5.trans (g6.trans (g7.trans (au h8 _))))) (.all aj (au h8 _ _ _ e7) (by lia) (by lia) (rt.mono (g6.trans (g7.trans (au h8 _))))) ?_
      rw[Tm.dep]
      lia
     ·subst z
      refine⟨p6,_,_,_,rfl,rfl,SqL.of e6,rfl,_,rfl,D,_,rfl,.inl ⟨SqL.of (g6 _ _ eD),fun p7 h7=>?_⟩⟩
      generalize eH7:upd H6 p7 _=H7
      obtain⟨g7,e7⟩:=aH eH7 h7
      refine⟨small (by show 2<=1000; decide),fun p8 h8=>?_⟩
      refine q (.ref p8) (.any ts) _ (gH.trans (s5.trans (g6.trans (g7.trans (au h8 _))))) (.any aj (au h8 _ _ _ e7) (by lia) (by lia) (rt.mono (g6.trans (g7.trans (au h8 _))))) ?_
      rw[Tm.dep]
      lia
theorem JW {e:Expr} {es:List Expr} {env:Env} (h:∀ x p,e≠.Starred x p):Qv (e::es) env=(false,S6 e env)::Qv es env:=by
 rw[Qv]
 intro x p z
 exact h x p z
theorem cL {X:Cx} {e:Expr} {es:List Expr} {te:TE} {t:TA} (ha:PE X e te) (hr:PA X es t) (h:∀ x p,e≠.Starred x p:=by intro x p z; cases z):PA X (e::es) (J2 te t):=aa ha hr (JW h)
theorem Gd (ns:List Int) (lo hi:Option Int):∃ ks:List Int,Ds (ns.map V.int) lo hi=ks.map V.int/\ks.length<=ns.length:=by
 unfold Ds
 generalize HT.sIx _ _ lo=x
 generalize HT.sIx _ _ hi=y
 refine⟨(ns.drop x).take (y - x),by rw[List.map_take,List.map_drop],?_⟩
 rw[Qh,Wn]
 lia
theorem wC:∀ (ns acc:List Int),acc.Nodup->(ns.foldl RZ acc).Nodup
 | [],acc,h=>h
 | n::r,acc,h=>by
  rw[Rh]
  refine wC r _ ?_
  unfold RZ
  split
  ·exact h
  ·rename_i z
   rw[List.nodup_append]
   refine⟨h,by simp,fun a ha b hb e=>?_⟩
   rw[Ud] at hb
   subst hb
   subst e
   exact z (List.any_eq_true.mpr ⟨a,ha,beq_self_eq_true a⟩)
theorem CK:∀ (ns acc:List Int),(ns.foldl RZ acc).length<=acc.length+ns.length
 | [],acc=>by simp
 | n::r,acc=>by
  rw[Rh]
  refine Q0 (CK r _) ?_
  unfold RZ
  split
  ·rw[Qk]; lia
  ·simp only[Qf,Qk,List.length_nil]; lia
theorem BP (ns:List Int):ddI ns=ns.foldl RZ []:=by
 unfold ddI PyProof.Rows.firstMet
 congr 1
 apply Xm
 intro i
 rw[Qj]
 by_cases h:i < ns.length
 ·rw[RG h,Px h]
  simp [Pz,Px h]
 ·have e1:(PL ns.length)[i]? = none:=Rg (by rw[Qn]; lia)
  rw[e1,Rg (by lia)]
  rfl
theorem j8:∀ {a b:List Int},a.Perm b->a.Pairwise (·<=·)->b.Pairwise (·<=·)->a=b
 | [],b,p,_,_=>(List.Perm.nil_eq p)
 | x::a,[],p,_,_=>absurd p.length_eq (by simp)
 | x::a,y::b,p,ha,hb=>by
  rw[RX] at ha hb
  have h1:x<=y:=by
   rcases List.mem_cons.mp (p.mem_iff.mpr PN) with h | h
   ·lia
   ·exact ha.1 y h
  have h2:y<=x:=by
   rcases List.mem_cons.mp (p.mem_iff.mp PN) with h | h
   ·lia
   ·exact hb.1 x h
  have e:x=y:=by lia
  subst e
  rw[j8 (List.Perm.cons_inv p) ha.2 hb.2]
abbrev Pl:=List (Int × Tm)
inductive dF (n:Nat) (H:Hp):List V->Pl->Prop where
 | nil:dF n H [] []
 | cons {r:Addr} {k:Int} {v:V} {t:Tm} {vs:List V} {ps:Pl}:H r=some (.tup [.int k,v])->iT n H v t->dF n H vs ps->dF n H (.ref r::vs) ((k,t)::ps)
theorem dF.bj {n:Nat} {H H':Hp} (e:∀ a xs,H a=some (HO.tup xs)->H' a=some (HO.tup xs)):∀ {vs:List V} {ps:Pl},dF n H vs ps->dF n H' vs ps
 | _,_,.nil=>.nil
 | _,_,.cons h t r=>.cons (e _ _ h) (t.bj e) (dF.bj e r)
theorem dF.length {n:Nat} {H:Hp}:∀ {vs:List V} {ps:Pl},dF n H vs ps->vs.length=ps.length
 | _,_,.nil=>rfl
 | _,_,.cons _ _ r=>by rw[Qk,Qk,dF.length r]
theorem dF.get {n:Nat} {H:Hp}:∀ {vs:List V} {ps:Pl} {i:Nat} {v:V},dF n H vs ps->vs[i]? = some v->∃ r k u t,v = .ref r/\H r=some (.tup [.int k,u])/\iT n H u t/\ps[i]? = some (k,t)
 | _,_,_,_,.nil,h=>by simp at h
 | _,_,0,_,.cons h t _,e=>by
  cases (show some _=some _ from e)
  exact⟨_,_,_,_,rfl,h,t,rfl⟩
 | _,_,i+1,_,.cons _ _ r,e=>by
  obtain⟨a,k,u,t,h1,h2,h3,h4⟩:=dF.get (i:=i) r (by simpa using e)
  exact⟨a,k,u,t,h1,h2,h3,by simpa using h4⟩
theorem dF.snoc {n:Nat} {H:Hp} {r:Addr} {k:Int} {v:V} {t:Tm} (h:H r=some (.tup [.int k,v])) (ht:iT n H v t):∀ {vs:List V} {ps:Pl},dF n H vs ps->dF n H (vs++[.ref r]) (ps++[(k,t)])
 | _,_,.nil=>.cons h ht .nil
 | _,_,.cons a b c=>.cons a b (dF.snoc h ht c)
def okP (p:Pl):Prop:=p≠[]/\p.length<=9/\(p.map (·.1)).Pairwise (· < ·)/\∀ x∈p,1<=x.1/\x.1<=9/\x.2.dep<=4
def za (n:Nat) (H:Hp) (a:Addr) (p:Pl):Prop:=okP p/\∃ vs,H a=some (.tup vs)/\dF n H vs p
theorem za.bj {n:Nat} {H H':Hp} {a:Addr} {p:Pl} (e:∀ a xs,H a=some (HO.tup xs)->H' a=some (HO.tup xs)) (h:za n H a p):za n H' a p:=by
 obtain⟨ok,vs,h1,h2⟩:=h
 exact⟨ok,vs,e _ _ h1,h2.bj e⟩
theorem za.mono {n:Nat} {H H':Hp} {a:Addr} {p:Pl} (e:aM H H') (h:za n H a p):za n H' a p:=h.bj fun a xs q=>e a _ q
inductive dH (n:Nat) (H:Hp):List Addr->List Pl->Prop where
 | nil:dH n H [] []
 | cons {a:Addr} {p:Pl} {as:List Addr} {ps:List Pl}:za n H a p->dH n H as ps->dH n H (a::as) (p::ps)
theorem dH.bj {n:Nat} {H H':Hp} (e:∀ a xs,H a=some (HO.tup xs)->H' a=some (HO.tup xs)):∀ {as:List Addr} {ps:List Pl},dH n H as ps->dH n H' as ps
 | _,_,.nil=>.nil
 | _,_,.cons h r=>.cons (h.bj e) (dH.bj e r)
theorem dH.length {n:Nat} {H:Hp}:∀ {as:List Addr} {ps:List Pl},dH n H as ps->as.length=ps.length
 | _,_,.nil=>rfl
 | _,_,.cons _ r=>by rw[Qk,Qk,dH.length r]
theorem dH.get {n:Nat} {H:Hp}:∀ {as:List Addr} {ps:List Pl} {i:Nat} {a:Addr},dH n H as ps->as[i]? = some a->∃ p,ps[i]? = some p/\za n H a p
 | _,_,_,_,.nil,h=>by simp at h
 | _,_,0,_,.cons h _,e=>by
  cases (show some _=some _ from e)
  exact⟨_,rfl,h⟩
 | _,_,i+1,_,.cons _ r,e=>by
  obtain⟨p,h1,h2⟩:=dH.get (i:=i) r (by simpa using e)
  exact⟨p,by simpa using h1,h2⟩
theorem dH.snoc {n:Nat} {H:Hp} {a:Addr} {p:Pl} (h:za n H a p):∀ {as:List Addr} {ps:List Pl},dH n H as ps->dH n H (as++[a]) (ps++[p])
 | _,_,.nil=>.cons h .nil
 | _,_,.cons x r=>.cons x (dH.snoc h r)
inductive cB (n:Nat) (H:Hp):List V->List (List Pl)->Prop where
 | nil:cB n H [] []
 | cons {c:Addr} {as:List Addr} {ps:List Pl} {us:List V} {bs:List (List Pl)}:H c=some (.lst (as.map V.ref))->as.length<=100->dH n H as ps->cB n H us bs->cB n H (.ref c::us) (ps::bs)
theorem cB.mono {n:Nat} {H H':Hp} (e:aM H H'):∀ {us:List V} {bs:List (List Pl)},cB n H us bs->cB n H' us bs
 | _,_,.nil=>.nil
 | _,_,.cons h l p r=>.cons (e _ _ h) l (p.bj fun a xs q=>e a _ q) (cB.mono e r)
theorem cB.length {n:Nat} {H:Hp}:∀ {us:List V} {bs:List (List Pl)},cB n H us bs->us.length=bs.length
 | _,_,.nil=>rfl
 | _,_,.cons _ _ _ r=>by rw[Qk,Qk,cB.length r]
theorem cB.get {n:Nat} {H:Hp}:∀ {us:List V} {bs:List (List Pl)} {i:Nat} {u:V},cB n H us bs->us[i]? = some u->∃ c as ps,u = .ref c/\bs[i]? = some ps/\H c=some (.lst (as.map V.ref))/\as.length<=100/\dH n H as ps
 | _,_,_,_,.nil,h=>by simp at h
 | _,_,0,_,.cons h l p _,e=>by
  cases (show some _=some _ from e)
  exact⟨_,_,_,rfl,rfl,h,l,p⟩
 | _,_,i+1,_,.cons _ _ _ r,e=>by
  obtain⟨c,as,ps,h1,h2,h3⟩:=cB.get (i:=i) r (by simpa using e)
  exact⟨c,as,ps,h1,by simpa using h2,h3⟩
theorem cB.snoc {n:Nat} {H:Hp} {c:Addr} {as:List Addr} {ps:List Pl} (h:H c=some (.lst (as.map V.ref))) (hl:as.length<=100) (hp:dH n H as ps):∀ {us:List V} {bs:List (List Pl)},cB n H us bs->cB n H (us++[.ref c]) (bs++[ps])
 | _,_,.nil=>.cons h hl hp .nil
 | _,_,.cons x y z r=>.cons x y z (cB.snoc h hl hp r)
def nZ (n:Nat) (H:Hp) (b:Addr) (bk:List (List Pl)):Prop:=∃ us,H b=some (.lst us)/\cB n H us bk/\bk.length<=12
theorem nZ.mono {n:Nat} {H H':Hp} {b:Addr} {bk:List (List Pl)} (e:aM H H') (h:nZ n H b bk):nZ n H' b bk:=by
 obtain⟨us,h1,h2,h3⟩:=h
 exact⟨us,e _ _ h1,h2.mono e,h3⟩
def owS (g:List Int) (f:Int) (x:Int × Tm):Int:=if hF g x.2=true then x.1 else f
def owF (g:List Int) (p:Pl):Int:=p.foldl (owS g) 0
theorem Dz {g:List Int} {p:Pl} {i:Nat} {x:Int × Tm} (h:p[i]? = some x):owF g (p.take (i+1))=if hF g x.2=true then x.1 else owF g (p.take i):=by
 unfold owF
 rw[Qz,h]
 show ((p.take i)++[x]).foldl (owS g) 0=_
 rw[List.foldl_append]
 rfl
def lsF (p:Pl):Int:=mxD 0 (p.map (·.1))
theorem jA:∀ (l:List Int) (a b:Int),l.foldl max (max a b)=max a (l.foldl max b)
 | [],a,b=>rfl
 | y::l,a,b=>by
  rw[Rh,Rh,show max (max a b) y=max a (max b y) by lia]
  exact jA l a (max b y)
def duF (g:List Int) (f:Int) (ps:List Pl):Int:=(ps.map (owF g)).foldl max f
theorem Ej (g:List Int) {f:Int} (hf:0<=f) (ps:List Pl):duF g f ps=max f (duF g 0 ps):=by
 unfold duF
 rw[← jA,show max f 0=f by lia]
def eV (g:List Int) (fl:List Int) (bk:List (List Pl)):List Int:=UT (duF g) fl bk
def rfS (f:Int) (ps:List Pl):Int:=(ps.map lsF).foldl max f
def rfF (fl:List Int) (bk:List (List Pl)):List Int:=UT rfS fl bk
theorem xg {α β γ:Type} (f:α->β->γ) {xs:List α} {ys:List β} {i:Nat} {x:α} {y:β} (h1:xs[i]? = some x) (h2:ys[i]? = some y):UT f (xs.take (i+1)) (ys.take (i+1))=UT f (xs.take i) (ys.take i)++[f x y]:=by
 have l1:i < xs.length:=(List.getElem?_eq_some_iff.mp h1).1
 have l2:i < ys.length:=(List.getElem?_eq_some_iff.mp h2).1
 rw[Qz,Qz,h1,h2]
 show UT f (xs.take i++[x]) (ys.take i++[y])=_
 rw[List.zipWith_append (by rw[Qh,Qh]; lia)]
 rfl
theorem Bh {as:List Addr} {i:Nat} {x:V} (h:(as.map V.ref)[i]? = some x):∃ a,as[i]? = some a/\x = .ref a:=by
 rw[Qj] at h
 cases e:as[i]? with
 | none=>rw[e] at h; cases h
 | some a=>rw[e] at h; exact⟨a,rfl,(QC h).symm⟩
theorem take_snoc {α β:Type} (f:α->β) {xs:List α} {i:Nat} {x:α} (h:xs[i]? = some x):(xs.take (i+1)).map f=(xs.take i).map f++[f x]:=(pR f h).symm
abbrev CT:Stmt:=top 7
theorem uR:aX ["pledge","giving","step","term"] ["pledge","giving"] (aJ CT):=⟨rfl,rfl,rfl,by decide+kernel,rfl,by decide+kernel,by decide+kernel⟩
inductive Cq (K:Qp) (vs:List V) (H:Hp) (Q:VK):Prop where
 | mk (a g:Addr) (n:Nat) (p:Pl) (ns:List Int) (z0:vs=[.ref a,.ref g]) (z1:za n H a p) (z2:SqT K H g (ns.map V.int)) (z3:n<=ns.length) (z4:∀ H',aM H H'->Q (.int (owF ns p)) H'):Cq K vs H Q
def Dj (K:Qp):Sp:=fun vs H Q _=>Cq K vs H Q
theorem JS {k:Nat} (F:Fun K "owes" "owes" CT f fd) (B:Bt mg)
  (D_holds:Df P w K mg base "holds" k ["term","giving"] (jd K 4)):eX P w K mg base CX0 (k+1) f fd ["pledge","giving"] (Dj K):=by
 refine F.ok uR (fun vs H Q E h=>?_) (fun cdv A outer s H vs Q E hr h=>?_)
 ·obtain⟨a,g,n,p,ns,rfl,_⟩:=h
  rfl
 ·obtain⟨a,g,n,p,ns,rfl,⟨ok,vs,ha,rp⟩,hg,hn,q⟩:=h
  refine⟨_,(aA (gK Ro rfl (KZ rfl B.reversed_ (aa (pv 0) aq)) (eE (K:=K) 2 rfl rfl (aZ (aG (i:=2) uR.nd rfl (Qi rfl)) (aZ (aG (i:=3) uR.nd rfl (Qi rfl)) dR))) (aC (cg (iz (aY D_holds hr (aa (pv 3) (aa (pv 1) aq)))) (aC (aL (pv 2))) aW)))
 (aC (aL aB))),?_⟩
  have el:=rp.length
  refine⟨_,rfl,a,vs,rfl,SqT.of ha,J5 (K:=K) (a:=a) (xs:=vs) (fun i σ H2=>(∃ u v,σ=[some (.ref a),some (.ref g),u,v])/\aM H H2/\owF ns p=owF ns (p.take (p.length - i)))
   ⟨⟨_,_,rfl⟩,aM.refl H,by rw[Nat.sub_zero,Qg]⟩ (fun i σ H2 _ h=>SqT.of (h.2.1 _ _ ha)) ?_ ?_⟩
  ·rintro i x σ H2 hi hx ⟨⟨u,v,rfl⟩,sm,ow⟩
   obtain⟨r,k0,y,t,rfl,hr0,rt,hp⟩:=rp.get hx
   have hm:=Qu hp
   have e1:p.length - i=vs.length - 1 - i+1:=by lia
   have e2:p.length - (i+1)=vs.length - 1 - i:=by lia
   rw[e1,Dz hp] at ow
   refine⟨r,_,rfl,SqT.of (sm _ _ hr0),rfl,_,_,rfl,_,_,rfl,rfl,?_⟩
   refine⟨_,rfl,_,rfl,y,g,n,t,ns,rfl,rt.mono sm,(ok.2.2.2 _ hm).2.2,jB sm hg,hn,fun H3 s3=>⟨_,rfl,?_⟩⟩
   cases e:hF ns t with
   | true =>
    refine jt ⟨_,rfl,?_⟩
    rw[if_pos e] at ow
    have q':=q H3 (sm.trans s3)
    rw[ow] at q'
    exact q'
   | false =>
    refine gq ⟨⟨_,_,rfl⟩,sm.trans s3,?_⟩
    rw[if_neg (by rw[e]; exact PQ)] at ow
    rw[e2]
    exact ow
  ·rintro σ H2 ⟨⟨u,v,rfl⟩,sm,ow⟩
   rw[el,Nat.sub_self,Rt] at ow
   have q':=q H2 sm
   rw[ow] at q'
   exact q'
abbrev jr:Stmt:=top 8
theorem sZ:aX ["pledge"] ["pledge"] (aJ jr):=⟨rfl,rfl,rfl,by decide+kernel,rfl,by decide+kernel,by decide+kernel⟩
inductive CG (vs:List V) (H:Hp) (Q:VK):Prop where
 | mk (a:Addr) (n:Nat) (p:Pl) (z0:vs=[.ref a]) (z1:za n H a p) (z2:∀ H',aM H H'->Q (.int (lsF p)) H'):CG  vs H Q
def Gx:Sp:=fun vs H Q _=>CG  vs H Q
theorem qW (F:Fun K "last_step" "last_step" jr f fd) (B:Bt mg) :
  eX P w K mg base CX0 1 f fd ["pledge"] Gx:=by
 refine F.ok sZ (fun vs H Q E h=>?_) (fun cdv A outer s H vs Q E hr h=>?_)
 ·obtain⟨a,n,p,rfl,_⟩:=h
  rfl
 ·obtain⟨a,n,p,rfl,⟨ok,vs,ha,rp⟩,q⟩:=h
  refine⟨_,(aC (aL (Jk rfl rfl B.max_ (aa (bA (L:=["step","term"]) (F:=[]) (cap:=[]) rfl (bu rfl rfl (by kernel_rfl)) (iM (pv 0)) (fun _ _ _ _ _=>(eE (K:=K) 2 rfl rfl (aZ (aG (i:=0) (aO (by decide+kernel)) rfl (Qi rfl)) (aZ (aG (i:=1) (aO (by decide+kernel)) rfl (Qi rfl)) dR)))) (fun _ _ _ _ _=>bC) (fun _ _ _ _ _=>(pv 0))) aq)))),?_⟩
  have el:=rp.length
  have l9:=ok.2.1
  refine⟨_,rfl,a,rfl,⟨_,SqT.of ha⟩,fun D hD=>fC (K:=K) (a:=a) (xs:=vs) (fun i zs σ' H2=>(∃ u v,σ'=[u,v])/\zs=((p.take i).map (·.1)).map V.int/\aM H H2/\H2 D=some (.lst zs))
   ⟨⟨_,_,rfl⟩,rfl,au hD _,aj⟩ (fun i zs σ' H2 _ h=>⟨SqT.of (h.2.2.1 _ _ ha),h.2.2.2⟩) ?_ ?_⟩
  ·rintro j zs x σ' H2 hx ⟨⟨u,v,rfl⟩,e1,sm,hDl⟩
   obtain⟨r,k0,y,t,rfl,hr0,rt,hp⟩:=rp.get hx
   refine⟨r,_,rfl,SqT.of (sm _ _ hr0),rfl,_,_,rfl,_,_,rfl,rfl,?_⟩
   refine tT ?_
   refine⟨_,rfl,hDl,?_,⟨_,_,rfl⟩,?_,aF sm hD _,aj⟩
   ·rw[e1,Pq,Pq,Qh]
    exact aD (by lia)
   ·rw[e1,take_snoc (·.1) hp,PJ]
    rfl
  ·rintro zs σ' H2 ⟨_,e1,sm,hDl⟩
   rw[el,Qg] at e1
   refine⟨D,p.map (·.1),rfl,SqL.of (by rw[hDl,e1]),?_⟩
   exact q H2 sm
abbrev gM:Stmt:=top 10
theorem oA:aX ["book","floor","giving"] ["book","floor","giving"] (aJ gM):=⟨rfl,rfl,rfl,by decide+kernel,rfl,by decide+kernel,by decide+kernel⟩
inductive Hm (K:Qp) (vs:List V) (H:Hp) (Q:VK):Prop where
 | mk (b f g:Addr) (n:Nat) (bk:List (List Pl)) (fl ns:List Int) (z0:vs=[.ref b,.ref f,.ref g]) (z1:nZ n H b bk) (z2:SqT K H f (fl.map V.int)) (z3:SqT K H g (ns.map V.int)) (z4:fl.length=bk.length) (z5:n<=ns.length) (z6:(∀ x∈fl,0<=x)) (z7:∀ (r:Addr) (H':Hp),aM H H'->H' r=some (.tup ((eV ns fl bk).map V.int))->Q (.ref r) H'):Hm K vs H Q
def KY (K:Qp):Sp:=fun vs H Q _=>Hm K vs H Q
theorem oO {k:Nat} (F:Fun K "what_is_due" "what_is_due" gM f fd) (B:Bt mg)
  (D_owes:Df P w K mg base "owes" k ["pledge","giving"] (Dj K)):eX P w K mg base CX0 (k+1) f fd ["book","floor","giving"] (KY K):=by
 refine F.ok oA (fun vs H Q E h=>?_) (fun cdv A outer s H vs Q E hr h=>?_)
 ·obtain⟨b,f,g,n,bk,fl,ns,rfl,_⟩:=h
  rfl
 ·obtain⟨b,f,g,n,bk,fl,ns,rfl,⟨us,hb,rb,l12⟩,hf,hg,hl,hn,h0,q⟩:=h
  refine⟨_,(aC (aL (bG (r:=fB K) bB rfl B.tuple_ bV (aa (bA (L:=["step","pledges"]) (F:=["giving"]) (cap:=[2]) rfl (bu rfl rfl (by kernel_rfl)) (Gm rfl B.zip_ (aa (pv 1) (aa (pv 0) aq))) (fun _ _ _ _ _=>(eE (K:=K) 2 rfl rfl (aZ (aG (i:=0) (aO (by decide+kernel)) rfl (Qi rfl)) (aZ (aG (i:=1) (aO (by decide+kernel)) rfl (Qi rfl)) dR)))) (fun _ _ _ _ _=>bC) (fun _ _ _ _ _=>(aK (r:=Fq K) (mR rfl) rfl B.max_ wK (aa (aP Aq (bK (aa (pv 0) aq)) (bA (L:=["pledge"]) (F:=["giving"]) (cap:=[2]) rfl (bu rfl rfl (by kernel_rfl)) (qi K rfl (pv 1)) (fun _ _ _ _ _=>(aG (i:=0) (aO (by decide+kernel)) rfl (Qi rfl))) (fun _ _ _ _ _=>bC) (fun _ _ _ _ _=>(aY D_owes hr (aa (pv 0) (aa (pv 1) aq)))))) aq)))) aq)))),?_⟩
  have el:=rb.length
  refine⟨_,rfl,_,rfl,f,b,_,_,rfl,hf,SqL.of hb,fun D hD=>wU (K:=K) (a:=f) (b:=b) (xs:=fl.map V.int) (ys:=us) (by rw[Pq]; lia)
   (fun i zs σ H2=>(∃ u v,σ=[u,v,some (.ref g)])/\zs=(UT (duF ns) (fl.take i) (bk.take i)).map V.int/\aM H H2/\H2 D=some (.lst zs)) ⟨⟨_,_,rfl⟩,rfl,au hD _,aj⟩ (fun i zs σ H2 _ h=>⟨jB h.2.2.1 hf,SqL.of (h.2.2.1 _ _ hb),h.2.2.2⟩) ?_ ?_⟩
  ·rintro i zs x y p σ H2 hx hy hp ⟨⟨u,v,rfl⟩,e1,sm,hDl⟩
   obtain⟨m,hm,rfl⟩:=int_at hx
   obtain⟨c,as,ps,rfl,hps,hc,l100,rps⟩:=rb.get hy
   have ell:=rps.length
   generalize eH3:upd H2 p _=H3
   obtain⟨g3,e3⟩:=aH eH3 hp
   refine⟨p,_,rfl,SqT.of e3,rfl,_,_,rfl,_,_,rfl,rfl,?_⟩
   refine tT ?_
   refine⟨_,rfl,small (by show 1<=1000; decide),fun p4 h4=>?_⟩
   generalize eH4:upd H3 p4 _=H4
   obtain⟨g4,e4⟩:=aH eH4 h4
   have s4:aM H H4:=sm.trans (g3.trans g4)
   refine⟨_,rfl,c,rfl,⟨_,SqL.of (s4 _ _ hc)⟩,fun D2 hD2=>cH (K:=K) (a:=c) (xs:=as.map V.ref) (fun j ws σ' H5=>(∃ u,σ'=[u,some (.ref g)])/\ws=((ps.take j).map (owF ns)).map V.int/\aM H4 H5/\H5 D2=some (.lst ws))
    ⟨⟨_,rfl⟩,rfl,au hD2 _,aj⟩ (fun j ws σ' H5 _ h=>⟨SqL.of (h.2.2.1 _ _ (s4 _ _ hc)),h.2.2.2⟩) ?_ ?_⟩
   ·rintro j ws x σ' H5 hx ⟨⟨u,rfl⟩,e5,s5,hD5⟩
    obtain⟨a,ha,rfl⟩:=Bh hx
    obtain⟨pl,hpl,rpl⟩:=rps.get ha
    refine gT ?_
    refine⟨_,rfl,_,rfl,a,g,n,pl,ns,rfl,rpl.mono (s4.trans s5),jB (s4.trans s5) hg,hn,fun H6 s6=>?_⟩
    refine⟨s6 _ _ hD5,?_,⟨_,rfl⟩,?_,aF (s5.trans s6) hD2 _,aj⟩
    ·rw[e5,Pq,Pq,Qh]
     exact aD (by lia)
    ·rw[e5,take_snoc (owF ns) hpl,PJ]
     rfl
   ·rintro ws σ' H5 ⟨_,e5,s5,hD5⟩
    rw[Pq,ell,Qg] at e5
    subst e5
    refine⟨p4,D2,_,_,rfl,rfl,s5 _ _ e4,hD5,small ?_,fun p6 h6=>?_⟩
    ·rw[Pq,Pq]
     show 1+ps.length<=1000
     lia
    generalize eH6:upd H5 p6 _=H6
    obtain⟨g6,e6⟩:=aH eH6 h6
    have sall:aM H2 H6:=g3.trans (g4.trans (s5.trans g6))
    refine⟨p6,m::ps.map (owF ns),rfl,SqL.of e6,by simp,sall _ _ hDl,?_,⟨_,_,rfl⟩,?_,aF (sm.trans sall) hD _,aj⟩
    ·rw[e1,Pq,VJ,Qh]
     exact aD (by lia)
    ·rw[e1,xg (duF ns) hm hps,PJ]
     rfl
  ·rintro zs σ H2 ⟨_,e1,sm,hDl⟩
   refine⟨D,_,rfl,.inl ⟨SqL.of hDl,fun l hl'=>?_⟩⟩
   refine q l _ (sm.trans (au hl' _)) ?_
   rw[aj,e1,Pq,Qg,hl,Qg]
   rfl
theorem uZ {g fl:List Int} {bk:List (List Pl)} (h:fl.length=bk.length):(eV g fl bk).length=bk.length:=by
 unfold eV
 rw[VJ]
 lia
abbrev zB:Stmt:=top 11
theorem Im:aX ["book","floor"] ["book","floor"] (aJ zB):=⟨rfl,rfl,rfl,by decide+kernel,rfl,by decide+kernel,by decide+kernel⟩
inductive zg (K:Qp) (vs:List V) (H:Hp) (Q:VK):Prop where
 | mk (b f:Addr) (n:Nat) (bk:List (List Pl)) (fl:List Int) (z0:vs=[.ref b,.ref f]) (z1:nZ n H b bk) (z2:SqT K H f (fl.map V.int)) (z3:fl.length=bk.length) (z4:∀ (r:Addr) (H':Hp),aM H H'->H' r=some (.tup ((rfF fl bk).map V.int))->Q (.ref r) H'):zg K vs H Q
def Gh (K:Qp):Sp:=fun vs H Q _=>zg K vs H Q
theorem JF (F:Fun K "roof" "roof" zB f fd) (B:Bt mg)
  (D_last_step:Df P w K mg base "last_step" 1 ["pledge"] Gx):eX P w K mg base CX0 2 f fd ["book","floor"] (Gh K):=by
 refine F.ok Im (fun vs H Q E h=>?_) (fun cdv A outer s H vs Q E hr h=>?_)
 ·obtain⟨b,f,n,bk,fl,rfl,_⟩:=h
  rfl
 ·obtain⟨b,f,n,bk,fl,rfl,⟨us,hb,rb,l12⟩,hf,hl,q⟩:=h
  refine⟨_,(aC (aL (bG (r:=fB K) bB rfl B.tuple_ bV (aa (bA (L:=["step","pledges"]) (F:=[]) (cap:=[]) rfl (bu rfl rfl (by kernel_rfl)) (Gm rfl B.zip_ (aa (pv 1) (aa (pv 0) aq))) (fun _ _ _ _ _=>(eE (K:=K) 2 rfl rfl (aZ (aG (i:=0) (aO (by decide+kernel)) rfl (Qi rfl)) (aZ (aG (i:=1) (aO (by decide+kernel)) rfl (Qi rfl)) dR)))) (fun _ _ _ _ _=>bC) (fun _ _ _ _ _=>(aK (r:=Fq K) (mR rfl) rfl B.max_ wK (aa (aP Aq (bK (aa (pv 0) aq)) (bA (L:=["pledge"]) (F:=[]) (cap:=[]) rfl (bu rfl rfl (by kernel_rfl)) (qi K rfl (pv 1)) (fun _ _ _ _ _=>(aG (i:=0) (aO (by decide+kernel)) rfl (Qi rfl))) (fun _ _ _ _ _=>bC) (fun _ _ _ _ _=>(aY D_last_step hr (aa (pv 0) aq))))) aq)))) aq)))),?_⟩
  have el:=rb.length
  refine⟨_,rfl,_,rfl,f,b,_,_,rfl,hf,SqL.of hb,fun D hD=>wU (K:=K) (a:=f) (b:=b) (xs:=fl.map V.int) (ys:=us) (by rw[Pq]; lia)
   (fun i zs σ H2=>(∃ u v,σ=[u,v])/\zs=(UT rfS (fl.take i) (bk.take i)).map V.int/\aM H H2/\H2 D=some (.lst zs)) ⟨⟨_,_,rfl⟩,rfl,au hD _,aj⟩ (fun i zs σ H2 _ h=>⟨jB h.2.2.1 hf,SqL.of (h.2.2.1 _ _ hb),h.2.2.2⟩) ?_ ?_⟩
  ·rintro i zs x y p σ H2 hx hy hp ⟨⟨u,v,rfl⟩,e1,sm,hDl⟩
   obtain⟨m,hm,rfl⟩:=int_at hx
   obtain⟨c,as,ps,rfl,hps,hc,l100,rps⟩:=rb.get hy
   have ell:=rps.length
   generalize eH3:upd H2 p _=H3
   obtain⟨g3,e3⟩:=aH eH3 hp
   refine⟨p,_,rfl,SqT.of e3,rfl,_,_,rfl,_,_,rfl,rfl,?_⟩
   refine tT ?_
   refine⟨_,rfl,small (by show 1<=1000; decide),fun p4 h4=>?_⟩
   generalize eH4:upd H3 p4 _=H4
   obtain⟨g4,e4⟩:=aH eH4 h4
   have s4:aM H H4:=sm.trans (g3.trans g4)
   refine⟨_,rfl,c,rfl,⟨_,SqL.of (s4 _ _ hc)⟩,fun D2 hD2=>cH (K:=K) (a:=c) (xs:=as.map V.ref) (fun j ws σ' H5=>(∃ u,σ'=[u])/\ws=((ps.take j).map lsF).map V.int/\aM H4 H5/\H5 D2=some (.lst ws))
    ⟨⟨_,rfl⟩,rfl,au hD2 _,aj⟩ (fun j ws σ' H5 _ h=>⟨SqL.of (h.2.2.1 _ _ (s4 _ _ hc)),h.2.2.2⟩) ?_ ?_⟩
   ·rintro j ws x σ' H5 hx ⟨⟨u,rfl⟩,e5,s5,hD5⟩
    obtain⟨a,ha,rfl⟩:=Bh hx
    obtain⟨pl,hpl,rpl⟩:=rps.get ha
    refine gT ?_
    refine⟨_,rfl,a,n,pl,rfl,rpl.mono (s4.trans s5),fun H6 s6=>?_⟩
    refine⟨s6 _ _ hD5,?_,⟨_,rfl⟩,?_,aF (s5.trans s6) hD2 _,aj⟩
    ·rw[e5,Pq,Pq,Qh]
     exact aD (by lia)
    ·rw[e5,take_snoc lsF hpl,PJ]
     rfl
   ·rintro ws σ' H5 ⟨_,e5,s5,hD5⟩
    rw[Pq,ell,Qg] at e5
    subst e5
    refine⟨p4,D2,_,_,rfl,rfl,s5 _ _ e4,hD5,small ?_,fun p6 h6=>?_⟩
    ·rw[Pq,Pq]
     show 1+ps.length<=1000
     lia
    generalize eH6:upd H5 p6 _=H6
    obtain⟨g6,e6⟩:=aH eH6 h6
    have sall:aM H2 H6:=g3.trans (g4.trans (s5.trans g6))
    refine⟨p6,m::ps.map lsF,rfl,SqL.of e6,by simp,sall _ _ hDl,?_,⟨_,_,rfl⟩,?_,aF (sm.trans sall) hD _,aj⟩
    ·rw[e1,Pq,VJ,Qh]
     exact aD (by lia)
    ·rw[e1,xg rfS hm hps,PJ]
     rfl
  ·rintro zs σ H2 ⟨_,e1,sm,hDl⟩
   refine⟨D,_,rfl,.inl ⟨SqL.of hDl,fun l hl'=>?_⟩⟩
   refine q l _ (sm.trans (au hl' _)) ?_
   rw[aj,e1,Pq,Qg,hl,Qg]
   rfl
def itF (f:List Int->List Int) (x:List Int):Nat->List Int
 | 0=>x
 | k+1=>f (itF f x k)
def Stops (f:List Int->List Int) (x:List Int) (m:Nat):Prop:=f (itF f x m)=itF f x m/\∀ j < m,f (itF f x j)≠itF f x j
def cT (f:List Int->List Int) (x:List Int) (m:Nat):List (List Int):=(PL (m+1)).map (itF f x)
theorem dj (f:List Int->List Int) (x:List Int) (m:Nat):(cT f x m).length=m+1:=by
 unfold cT
 rw[Pq,Qn]
theorem xW (f:List Int->List Int) (x:List Int) (m:Nat):cT f x (m+1)=cT f x m++[itF f x (m+1)]:=by
 unfold cT
 rw[Sw,PJ]
 rfl
theorem yK (f:List Int->List Int) (x:List Int) (m:Nat):(cT f x m)[(cT f x m).length - 1]? = some (itF f x m):=by
 rw[dj,Nat.add_sub_cancel]
 unfold cT
 rw[Qj,RG (S8 m)]
 rfl
theorem oV {f:List Int->List Int} {x:List Int} {m m':Nat} (h:Stops f x m) (h':Stops f x m'):m=m':=by
 rcases Nat.lt_trichotomy m m' with z | z | z
 ·exact absurd h.1 (h'.2 m z)
 ·exact z
 ·exact absurd h'.1 (h.2 m' z)
theorem pZ {f:List Int->List Int} {x:List Int} (φ:List Int->Int) (N:Nat) (b0:∀ k,0<=φ (itF f x k)) (bN:∀ k,φ (itF f x k)<=(N:Int)) (up:∀ k,f (itF f x k)≠itF f x k->φ (itF f x k) < φ (itF f x (k+1))):∃ m,m<=N/\Stops f x m:=by
 have key:∀ k,(∃ m,m < k/\Stops f x m)∨((∀ j < k,f (itF f x j)≠itF f x j)/\(k:Int)<=φ (itF f x k)):=by
  intro k
  induction k with
  | zero=>exact .inr ⟨fun j h=>absurd h (Vz _),by simpa using b0 0⟩
  | succ k ih =>
   rcases ih with⟨m,h1,h2⟩ | ⟨h1,h2⟩
   ·exact .inl ⟨m,by lia,h2⟩
   ·by_cases e:f (itF f x k)=itF f x k
    ·exact .inl ⟨k,S8 k,e,h1⟩
    ·refine .inr ⟨fun j hj=>?_,by have:=up k e; lia⟩
     rcases R8 j k with z | z
     ·exact h1 j z
     ·have:j=k:=by lia
      subst this
      exact e
 rcases key (N+1) with⟨m,h1,h2⟩ | ⟨_,h2⟩
 ·exact⟨m,by lia,h2⟩
 ·have:=bN (N+1)
  lia
theorem iC {g g':List Int} (hl:g.length=g'.length) (h:∀ i,i < g.length->g.getD i 0<=g'.getD i 0):LeG g g':=fun i=>by
 by_cases hi:i < g.length
 ·exact h i hi
 ·rw[Pz,Rg (by lia),Pz,Rg (by lia)]
  exact Rx _
theorem Hu {g:List Int} {p:Pl} {b:Int} (h0:0<=b) (h:∀ x∈p,x.1<=b):owF g p<=b:=by
 have key:∀ (p:Pl) (f:Int),f<=b->(∀ x∈p,x.1<=b)->p.foldl (owS g) f<=b:=by
  intro p
  induction p with
  | nil=>intro f hf _; exact hf
  | cons x r ih =>
   intro f hf hx
   rw[Rh]
   refine ih _ ?_ fun y hy=>hx y (Qc _ hy)
   unfold owS
   split
   ·exact hx x PN
   ·exact hf
 exact key p 0 h0 h
theorem Fy {g g':List Int} (l:LeG g g') {p:Pl} (ok:okP p):owF g p<=owF g' p:=by
 have key:∀ (p:Pl) (f f':Int),f<=f'->(∀ x∈p,f' < x.1)->(p.map (·.1)).Pairwise (· < ·)->p.foldl (owS g) f<=p.foldl (owS g') f':=by
  intro p
  induction p with
  | nil=>intro f f' hf _ _; exact hf
  | cons x r ih =>
   intro f f' hf hx hp
   rw[QH,RX] at hp
   rw[Rh,Rh]
   have hr:∀ y∈r,x.1 < y.1:=fun y hy=>hp.1 y.1 (List.mem_map.mpr ⟨y,hy,rfl⟩)
   have hx0:=hx x PN
   have hfr:∀ y∈r,f' < y.1:=fun y hy=>by have:=hr y hy; lia
   unfold owS
   by_cases c:hF g x.2=true
   ·rw[if_pos c,if_pos (vg l _ c)]
    exact ih _ _ (Rx _) hr hp.2
   ·rw[if_neg c]
    by_cases c':hF g' x.2=true
    ·rw[if_pos c']
     exact ih _ _ (by lia) hr hp.2
    ·rw[if_neg c']
     exact ih _ _ hf hfr hp.2
 exact key p 0 0 (Rx _) (fun x hx=>by have:=(ok.2.2.2 x hx).1; lia) ok.2.2.1
theorem fP {b:Int}:∀ (l:List Int) (a:Int),a<=b->(∀ x∈l,x<=b)->l.foldl max a<=b
 | [],a,h,_=>h
 | y::l,a,h,hl=>by
  rw[Rh]
  exact fP l _ (by have:=hl y PN; lia) fun x hx=>hl x (Qc _ hx)
theorem fZ {α:Type} (u v:α->Int):∀ (l:List α) (a b:Int),a<=b->(∀ x∈l,u x<=v x)->(l.map u).foldl max a<=(l.map v).foldl max b
 | [],a,b,h,_=>h
 | y::l,a,b,h,hl=>by
  rw[QH,QH,Rh,Rh]
  exact fZ u v l _ _ (by have:=hl y PN; lia) fun x hx=>hl x (Qc _ hx)
def okB (bk:List (List Pl)):Prop:=∀ ps∈bk,∀ p∈ps,okP p
theorem wZ {g g':List Int} (l:LeG g g') {ps:List Pl} (ok:∀ p∈ps,okP p) {f f':Int} (h:f<=f'):duF g f ps<=duF g' f' ps:=fZ _ _ ps f f' h fun p hp=>Fy l (ok p hp)
theorem Gs (g:List Int) (f:Int) (ps:List Pl):f<=duF g f ps:=(eU _ f).1
theorem Jg (g:List Int) {f:Int} (h:f<=9) {ps:List Pl} (ok:∀ p∈ps,okP p):duF g f ps<=9:=by
 refine fP _ f h fun x hx=>?_
 obtain⟨p,hp,rfl⟩:=List.mem_map.mp hx
 exact Hu (by decide) fun y hy=>((ok p hp).2.2.2 y hy).2.1
theorem Gn {p:Pl} {x:Int × Tm} (h:x∈p):x.1<=lsF p:=by
 unfold lsF
 cases p with
 | nil=>cases h
 | cons y r =>
  show x.1<=(r.map (·.1)).foldl max y.1
  obtain⟨h1,h2⟩:=eU (r.map (·.1)) y.1
  rcases List.mem_cons.mp h with rfl | h
  ·exact h1
  ·exact h2 x.1 (List.mem_map.mpr ⟨x,h,rfl⟩)
theorem Jo {g:List Int} {p:Pl} (ok:okP p):owF g p<=lsF p:=by
 have hne:=ok.1
 refine Hu ?_ fun x hx=>Gn hx
 cases p with
 | nil=>exact absurd rfl hne
 | cons y r =>
  have:=Gn (p:=y::r) (x:=y) PN
  have:=(ok.2.2.2 y PN).1
  lia
theorem JC (g:List Int) (f:Int) {ps:List Pl} (ok:∀ p∈ps,okP p):duF g f ps<=rfS f ps:=fZ _ _ ps f f (Rx _) fun p hp=>Jo (ok p hp)
theorem Jd {p:Pl} (ok:okP p):lsF p<=9:=by
 cases p with
 | nil=>exact absurd rfl ok.1
 | cons y r =>
  show (r.map (·.1)).foldl max y.1<=9
  refine fP _ _ (ok.2.2.2 y PN).2.1 fun x hx=>?_
  obtain⟨z,hz,rfl⟩:=List.mem_map.mp hx
  exact (ok.2.2.2 z (Qc _ hz)).2.1
theorem JT {f:Int} (h:f<=9) {ps:List Pl} (ok:∀ p∈ps,okP p):rfS f ps<=9:=by
 refine fP _ f h fun x hx=>?_
 obtain⟨p,hp,rfl⟩:=List.mem_map.mp hx
 exact Jd (ok p hp)
theorem Ku (f:Int) (ps:List Pl):f<=rfS f ps:=(eU _ f).1
theorem fG {α:Type} (f:Int->α->Int) {xs:List Int} {ys:List α} {i:Nat} (h1:i < xs.length) (h2:i < ys.length):(UT f xs ys).getD i 0=f (xs.getD i 0) ys[i]:=by
 rw[Pz,List.getElem?_zipWith,Px h1,Px h2,Pz,Px h1]
 rfl
theorem gC:∀ {g g':List Int},g.length=g'.length->(∀ i,i < g.length->g.getD i 0<=g'.getD i 0)->g.sum<=g'.sum/\(g.sum=g'.sum->g=g')
 | [],[],_,_=>⟨Rx _,fun _=>rfl⟩
 | a::g,b::g',hl,h=>by
  have h0:a<=b:=h 0 (Nat.succ_pos _)
  obtain⟨h1,h2⟩:=gC (g:=g) (g':=g') (by simpa using hl) fun i hi=>by
   have:=h (i+1) (by rw[Qk]; lia)
   simpa using this
  rw[S5,S5]
  refine⟨by lia,fun e=>?_⟩
  have e1:a=b:=by lia
  have e2:g.sum=g'.sum:=by lia
  rw[e1,h2 e2]
theorem sum_bound {g:List Int} (h:∀ x∈g,0<=x/\x<=9):0<=g.sum/\g.sum<=9 * (g.length:Int):=by
 induction g with
 | nil=>exact⟨Rx _,by simp⟩
 | cons a g ih =>
  have:=h a PN
  have:=ih fun x hx=>h x (Qc _ hx)
  rw[S5,Qk]
  lia
def okG (n:Nat) (g:List Int):Prop:=g.length=n/\∀ x∈g,0<=x/\x<=9
theorem dw {n:Nat} {g:List Int} (h:okG n g) {i:Nat} (hi:i < n):0<=g.getD i 0/\g.getD i 0<=9:=by
 have hi':i < g.length:=by rw[h.1]; exact hi
 rw[Pz,Px hi']
 exact h.2 _ (Q9 hi')
theorem o8 {n:Nat} {g:List Int} (hl:g.length=n) (h:∀ i,i < n->0<=g.getD i 0/\g.getD i 0<=9):okG n g:=by
 refine⟨hl,fun x hx=>?_⟩
 obtain⟨i,hi,e⟩:=RP hx
 have:=h i (by lia)
 rw[Pz,Px hi,e] at this
 exact this
section
variable {n:Nat} {fl:List Int} {bk:List (List Pl)}
theorem fK (hb:bk.length=n) (ok:okB bk) (hf:okG n fl) (g:List Int):okG n (eV g fl bk):=by
 refine o8 (by rw[uZ (by rw[hf.1,hb])]; exact hb) fun i hi=>?_
 have h1:i < fl.length:=by rw[hf.1]; exact hi
 have h2:i < bk.length:=by lia
 unfold eV
 rw[fG (duF g) h1 h2]
 have:=dw hf hi
 have:=Gs g (fl.getD i 0) bk[i]
 have:=Jg g (f:=fl.getD i 0) (by lia) (ok bk[i] (Q9 h2))
 lia
theorem lY (hb:bk.length=n) (ok:okB bk) (hf:okG n fl) {g g':List Int} (l:LeG g g'):LeG (eV g fl bk) (eV g' fl bk):=by
 have l1:=(fK hb ok hf g).1
 have l2:=(fK hb ok hf g').1
 refine iC (by lia) fun i hi=>?_
 have h1:i < fl.length:=by rw[hf.1]; lia
 have h2:i < bk.length:=by lia
 unfold eV
 rw[fG (duF g) h1 h2,fG (duF g') h1 h2]
 exact wZ l (ok bk[i] (Q9 h2)) (Rx _)
theorem nU (hb:bk.length=n) (ok:okB bk) (hf:okG n fl) (g:List Int):LeG fl (eV g fl bk):=by
 have l1:=(fK hb ok hf g).1
 refine iC (by rw[hf.1]; lia) fun i hi=>?_
 have h2:i < bk.length:=by rw[hf.1] at hi; lia
 unfold eV
 rw[fG (duF g) hi h2]
 exact Gs _ _ _
theorem dB (hb:bk.length=n) (ok:okB bk) (hf:okG n fl):okG n (rfF fl bk):=by
 have hl:(rfF fl bk).length=n:=by
  unfold rfF
  rw[VJ,hf.1,hb,Nat.min_self]
 refine o8 hl fun i hi=>?_
 have h1:i < fl.length:=by rw[hf.1]; exact hi
 have h2:i < bk.length:=by lia
 unfold rfF
 rw[fG rfS h1 h2]
 have:=dw hf hi
 have:=Ku (fl.getD i 0) bk[i]
 have:=JT (f:=fl.getD i 0) (by lia) (ok bk[i] (Q9 h2))
 lia
theorem wy (hb:bk.length=n) (ok:okB bk) (hf:okG n fl) (g:List Int):LeG (eV g fl bk) (rfF fl bk):=by
 have l1:=(fK hb ok hf g).1
 have l2:=(dB hb ok hf).1
 refine iC (by lia) fun i hi=>?_
 have h1:i < fl.length:=by rw[hf.1]; lia
 have h2:i < bk.length:=by lia
 unfold eV rfF
 rw[fG (duF g) h1 h2,fG rfS h1 h2]
 exact JC g _ (ok bk[i] (Q9 h2))
theorem dG (hb:bk.length=n) (ok:okB bk) (hf:okG n fl) {x:List Int} (hx:okG n x):∀ k,okG n (itF (fun g=>eV g fl bk) x k)
 | 0=>hx
 | k+1=>fK hb ok hf _
theorem Mz (hb:bk.length=n) (ok:okB bk) (hf:okG n fl) {x:List Int} (h:LeG x (eV x fl bk)):∀ k,LeG (itF (fun g=>eV g fl bk) x k) (itF (fun g=>eV g fl bk) x (k+1))
 | 0=>h
 | k+1=>lY hb ok hf (Mz hb ok hf h k)
theorem Av (hb:bk.length=n) (ok:okB bk) (hf:okG n fl) {x:List Int} (h:LeG (eV x fl bk) x):∀ k,LeG (itF (fun g=>eV g fl bk) x (k+1)) (itF (fun g=>eV g fl bk) x k)
 | 0=>h
 | k+1=>lY hb ok hf (Av hb ok hf h k)
theorem Ew (hb:bk.length=n) (ok:okB bk) (hf:okG n fl) {x:List Int} (hx:okG n x) (h:LeG x (eV x fl bk)):∃ m,m<=9 * n/\Stops (fun g=>eV g fl bk) x m:=by
 refine pZ V4 (9 * n) (fun k=>(sum_bound (dG hb ok hf hx k).2).1) (fun k=>?_) (fun k ne=>?_)
 ·have:=(sum_bound (dG hb ok hf hx k).2).2
  rw[(dG hb ok hf hx k).1] at this
  lia
 ·obtain⟨h1,h2⟩:=gC ((dG hb ok hf hx k).1.trans (dG hb ok hf hx (k+1)).1.symm) fun i _=>Mz hb ok hf h k i
  have:V4 (itF (fun g=>eV g fl bk) x k)≠V4 (itF (fun g=>eV g fl bk) x (k+1)):=fun e=>ne (h2 e).symm
  lia
theorem yJ (hb:bk.length=n) (ok:okB bk) (hf:okG n fl) {x:List Int} (hx:okG n x) (h:LeG (eV x fl bk) x):∃ m,m<=9 * n/\Stops (fun g=>eV g fl bk) x m:=by
 refine pZ (fun g=>9 * (n:Int) - g.sum) (9 * n) (fun k=>?_) (fun k=>?_) (fun k ne=>?_)
 ·have:=(sum_bound (dG hb ok hf hx k).2).2
  rw[(dG hb ok hf hx k).1] at this
  show 0<=9 * (n:Int) - V4 _
  lia
 ·have:=(sum_bound (dG hb ok hf hx k).2).1
  show 9 * (n:Int) - V4 _<=_
  lia
 ·obtain⟨h1,h2⟩:=gC ((dG hb ok hf hx (k+1)).1.trans (dG hb ok hf hx k).1.symm) fun i _=>Av hb ok hf h k i
  have:V4 (itF (fun g=>eV g fl bk) x (k+1))≠V4 (itF (fun g=>eV g fl bk) x k):=fun e=>ne (h2 e)
  show 9 * (n:Int) - V4 _ < 9 * (n:Int) - V4 _
  lia
end
inductive fu (H:Hp):List V->List (List Int)->Prop where
 | nil:fu H [] []
 | cons {a:Addr} {g:List Int} {us:List V} {gs:List (List Int)}:H a=some (.tup (g.map V.int))->g.length<=1000->fu H us gs->fu H (.ref a::us) (g::gs)
theorem fu.bj {H H':Hp} (e:∀ a xs,H a=some (HO.tup xs)->H' a=some (HO.tup xs)):∀ {us:List V} {gs:List (List Int)},fu H us gs->fu H' us gs
 | _,_,.nil=>.nil
 | _,_,.cons h l r=>.cons (e _ _ h) l (fu.bj e r)
theorem fu.mono {H H':Hp} (e:aM H H') {us:List V} {gs:List (List Int)} (h:fu H us gs):fu H' us gs:=h.bj fun a xs q=>e a _ q
theorem fu.length {H:Hp}:∀ {us:List V} {gs:List (List Int)},fu H us gs->us.length=gs.length
 | _,_,.nil=>rfl
 | _,_,.cons _ _ r=>by rw[Qk,Qk,fu.length r]
theorem fu.get {H:Hp}:∀ {us:List V} {gs:List (List Int)} {i:Nat} {g:List Int},fu H us gs->gs[i]? = some g->∃ a,us[i]? = some (.ref a)/\H a=some (.tup (g.map V.int))
 | _,_,_,_,.nil,h=>by simp at h
 | _,_,0,_,.cons h _ _,e=>by
  cases (show some _=some _ from e)
  exact⟨_,rfl,h⟩
 | _,_,i+1,_,.cons _ _ r,e=>by
  obtain⟨a,h1,h2⟩:=fu.get (i:=i) r (by simpa using e)
  exact⟨a,by simpa using h1,h2⟩
theorem fu.snoc {H:Hp} {a:Addr} {g:List Int} (h:H a=some (.tup (g.map V.int))) (hl:g.length<=1000):∀ {us:List V} {gs:List (List Int)},fu H us gs->fu H (us++[.ref a]) (gs++[g])
 | _,_,.nil=>.cons h hl .nil
 | _,_,.cons x y r=>.cons x y (fu.snoc h hl r)
def gD (g:List Int):Dm:=.tup (g.map Dm.int)
theorem fu.Lw {H:Hp}:∀ {us:List V} {gs:List (List Int)},fu H us gs->pH H us (gs.map gD)
 | _,_,.nil=>.nil
 | _,_,.cons h l r=>.cons (ju h l) (fu.Lw r)
theorem uQ:∀ gs:List (List Int),n8 (gs.map gD)<=1
 | []=>by rw[Vg,n8]; decide
 | g::gs=>by
  have:=uQ gs
  rw[QH,n8]
  have:(gD g).dep=1:=vQ g
  lia
theorem cB.okB {n:Nat} {H:Hp}:∀ {us:List V} {bk:List (List Pl)},cB n H us bk->okB bk
 | _,_,.nil=>fun ps h=>by cases h
 | _,_,.cons _ _ p r=>fun ps h q hq=>by
  rcases List.mem_cons.mp h with rfl | h
  ·obtain⟨i,hi,e⟩:=RP hq
   have hlen:=p.length
   obtain⟨q',e1,e2⟩:=p.get (i:=i) (Px (by lia))
   rw[Px hi,e] at e1
   cases e1
   exact e2.1
  ·exact cB.okB r ps h q hq
theorem nZ.okB {n:Nat} {H:Hp} {b:Addr} {bk:List (List Pl)} (h:nZ n H b bk):okB bk:=by
 obtain⟨us,_,h2,_⟩:=h
 exact h2.okB
abbrev Fd (fl:List Int) (bk:List (List Pl)):List Int->List Int:=fun g=>eV g fl bk
abbrev mD:Stmt:=top 12
theorem iH:aX ["book","floor","giving","row","due"] ["book","floor","giving"] (aJ mD):=⟨rfl,rfl,rfl,by decide+kernel,rfl,by decide+kernel,by decide+kernel⟩
inductive pG (K:Qp) (vs:List V) (H:Hp) (Q:VK):Prop where
 | mk (b f g:Addr) (n:Nat) (bk:List (List Pl)) (fl x:List Int) (m:Nat) (z0:vs=[.ref b,.ref f,.ref g]) (z1:nZ n H b bk) (z2:bk.length=n) (z3:H f=some (.tup (fl.map V.int))) (z4:okG n fl) (z5:H g=some (.tup (x.map V.int))) (z6:okG n x) (z7:m<=9 * n) (z8:Stops (Fd fl bk) x m) (z9:∀ (r:Addr) (us:List V) (H':Hp),aM H H'->H r=none->H' r=some (.lst us)->fu H' us (cT (Fd fl bk) x m)->Q (.ref r) H'):pG K vs H Q
def nq (K:Qp):Sp:=fun vs H Q _=>pG K vs H Q
theorem qI {H:Hp} {us:List V} {F:List Int->List Int} {x:List Int} {j:Nat} (h:fu H us (cT F x j)):∃ a,atI us (-1)=some (.ref a)/\H a=some (.tup ((itF F x j).map V.int)):=by
 have hl:=h.length
 obtain⟨a,h1,h2⟩:=h.get (yK F x j)
 rw[← hl] at h1
 exact⟨a,MN h1,h2⟩
def CZ (H:Hp) (r:Addr):Nat:=match H r with
 | some (.lst us)=>us.length
 | _=>0
theorem wI {H:Hp} {r:Addr} {us:List V} (h:H r=some (.lst us)):CZ H r=us.length:=by unfold CZ; rw[h]
theorem yl {k:Nat} (F:Fun K "settled" "settled" mD f fd) (B:Bt mg)
  (D_what_is_due:Df P w K mg base "what_is_due" k ["book","floor","giving"] (KY K)):eX P w K mg base CX0 (k+1) f fd ["book","floor","giving"] (nq K):=by
 refine F.ok iH (fun vs H Q E h=>?_) (fun cdv A outer s H vs Q E hr h=>?_)
 ·obtain⟨b,f,g,n,bk,fl,x,m,rfl,_⟩:=h
  rfl
 ·obtain⟨b,f,g,n,bk,fl,x,m,rfl,hb,lb,hf,of,hg,ox,hm,st,q⟩:=h
  refine⟨_,(aA (aR (i:=3) iH.nd rfl (Qi rfl) (bK (aa (pv 2) aq)))
 (aA (aR (i:=4) iH.nd rfl (Qi rfl) (aY D_what_is_due hr (aa (pv 0) (aa (pv 1) (aa (pv 2) aq)))))
 (aA (pW Ro (aV (r:=Jl K) (Ar hr.mF) (pv 4) (bh (r:=fX K) aQ (pv 3) (Jf zz aB) (fun _ _=>rfl)) (bf _)) (aA (gk (jX QB Rm Rk cM (pv 3) (aa (pv 4) aq)))
 (aC (aR (i:=4) iH.nd rfl (Qi rfl) (aY D_what_is_due hr (aa (pv 0) (aa (pv 1) (aa (pv 4) aq))))))))
 (aC (aL (pv 3)))))),?_⟩
  have okb:=hb.okB
  have b12:n<=12:=by obtain⟨_,_,_,h⟩:=hb; lia
  have og:∀ j,okG n (itF (Fd fl bk) x j):=dG lb okb of ox
  have f0:∀ y∈fl,0<=y:=fun y hy=>(of.2 y hy).1
  have hlb:fl.length=bk.length:=by rw[of.1,lb]
  refine⟨_,rfl,small (by show 1<=1000; decide),fun r hr0=>?_⟩
  generalize eH1:upd H r _=H1
  obtain⟨g1,e1⟩:=aH eH1 hr0
  refine⟨_,rfl,_,rfl,_,rfl,b,f,g,n,bk,fl,x,rfl,hb.mono g1,SqT.of (g1 _ _ hf),SqT.of (g1 _ _ hg),hlb,by rw[ox.1]; lia,f0,fun r1 H2 s2 er1=>?_⟩
  refine gN ?_
  refine DG (fun σ H3=>∃ (j:Nat) (us:List V) (d:Addr),j<=m/\σ=[some (.ref b),some (.ref f),some (.ref g),some (.ref r),some (.ref d)]/\aM H H3/\H3 r=some (.lst us)/\fu H3 us (cT (Fd fl bk) x j)/\H3 d=some (.tup ((itF (Fd fl bk) x (j+1)).map V.int)))
   (fun _ H3=>m+2 - CZ H3 r) ⟨0,[.ref g],r1,Qw _,rfl,g1.trans s2,s2 _ _ e1,.cons (s2 _ _ (g1 _ _ hg)) (by rw[(og 0).1]; lia) .nil,er1⟩ ?_ ?_
  ·rintro σ H3 ⟨j,us,d,hj,rfl,s3,er,gr,ed⟩
   obtain⟨a,ha,ea⟩:=qI gr
   have lu:=gr.length
   rw[dj] at lu
   refine⟨_,rfl,_,rfl,_,rfl,r,_,_,_,rfl,rfl,SqL.of er,ha,d,a,_,_,rfl,rfl,SqT.of ed,SqT.of ea,_,rfl,?_⟩
   by_cases e:itF (Fd fl bk) x (j+1)=itF (Fd fl bk) x j
   ·rw[decide_eq_true e]
    refine gq ?_
    have ej:j=m:=by
     rcases R8 j m with z | z
     ·exact absurd e (st.2 j z)
     ·lia
    subst ej
    exact⟨_,rfl,q r us H3 s3 hr0 er gr⟩
   ·rw[decide_eq_false e]
    refine jt ?_
    have hjm:j < m:=by
     rcases R8 j m with z | z
     ·exact z
     ·have:j=m:=by lia
      subst this
      exact absurd st.1 e
    refine⟨_,rfl,.inl ⟨rfl,_,SqL.of er⟩,_,rfl,r,_,_,rfl,rfl,er,aD (by lia),?_⟩
    have tk:=bR (zs':=us++[.ref d]) er
    have s4:aM H (upd H3 r (.lst (us++[.ref d]))):=aF s3 hr0 _
    refine⟨_,rfl,_,rfl,_,rfl,b,f,d,n,bk,fl,_,rfl,hb.mono s4,SqT.of (s4 _ _ hf),SqT.of (tk _ _ ed),hlb,by rw[(og (j+1)).1]; lia,f0,fun r5 H5 s5 er5=>?_⟩
    have er':H5 r=some (.lst (us++[.ref d])):=s5 _ _ aj
    refine⟨⟨j+1,us++[.ref d],r5,hjm,rfl,s4.trans s5,er',?_,er5⟩,?_⟩
    ·rw[xW]
     exact ((gr.bj tk).snoc (tk _ _ ed) (by rw[(og (j+1)).1]; lia)).mono s5
    ·show m+2 - CZ H5 r < m+2 - CZ H3 r
     rw[wI er',wI er,Qf]
     show m+2 - (us.length+1) < m+2 - us.length
     lia
  ·rintro σ H3 Q1 Q2 hQ ⟨v1,h1,v2,h2,i0,h3,p,xs,i,z,h4,h5,h6,h7,a1,a2,ns,ms,h8,h9,h10,h11,c,h12,qq⟩
   exact⟨v1,h1,v2,h2,i0,h3,p,xs,i,z,h4,h5,h6,h7,a1,a2,ns,ms,h8,h9,h10,h11,c,h12,hQ _ _ qq⟩
def kE (st:List Int->List (List Pl)->List Int):Sp:=fun vs H Q _=>∃ (b f:Addr) (n:Nat) (bk:List (List Pl)) (fl:List Int),vs=[.ref b,.ref f]/\nZ n H b bk/\bk.length=n/\H f=some (.tup (fl.map V.int))/\okG n fl ∧
 ∀ (m:Nat) (r:Addr) (us:List V) (H':Hp),m<=9 * n->Stops (Fd fl bk) (st fl bk) m->aM H H'->H r=none->H' r=some (.lst us)->fu H' us (cT (Fd fl bk) (st fl bk) m)->Q (.ref r) H'
def ud (st:List Int->List (List Pl)->List Int):Sp:=fun vs H Q _=>∃ (b f:Addr) (n:Nat) (bk:List (List Pl)) (fl:List Int),vs=[.ref b,.ref f]/\nZ n H b bk/\bk.length=n/\H f=some (.tup (fl.map V.int))/\okG n fl ∧
 ∀ (m:Nat) (a:Addr) (H':Hp),m<=9 * n->Stops (Fd fl bk) (st fl bk) m->aM H H'->H' a=some (.tup ((itF (Fd fl bk) (st fl bk) m).map V.int))->Q (.ref a) H'
abbrev Kl:List Int->List (List Pl)->List Int:=fun fl _=>fl
theorem kI {n:Nat} {fl:List Int} {bk:List (List Pl)} (hb:bk.length=n) (ok:okB bk) (hf:okG n fl):∃ m,m<=9 * n/\Stops (Fd fl bk) fl m:=Ew hb ok hf hf (nU hb ok hf fl)
theorem jO {n:Nat} {fl:List Int} {bk:List (List Pl)} (hb:bk.length=n) (ok:okB bk) (hf:okG n fl):∃ m,m<=9 * n/\Stops (Fd fl bk) (rfF fl bk) m:=yJ hb ok hf (dB hb ok hf) (wy hb ok hf _)
abbrev Bm:Stmt:=top 13
abbrev uI:Stmt:=top 15
theorem JH:aX ["book","floor"] ["book","floor"] (aJ Bm):=⟨rfl,rfl,rfl,by decide+kernel,rfl,by decide+kernel,by decide+kernel⟩
theorem Ex:aX ["book","floor"] ["book","floor"] (aJ uI):=⟨rfl,rfl,rfl,by decide+kernel,rfl,by decide+kernel,by decide+kernel⟩
theorem JP {k:Nat} (F:Fun K "rise" "rise" Bm f fd) (B:Bt mg)
  (D_settled:Df P w K mg base "settled" k ["book","floor","giving"] (nq K)):eX P w K mg base CX0 (k+1) f fd ["book","floor"] (kE Kl):=by
 refine F.ok JH (fun vs H Q E h=>?_) (fun cdv A outer s H vs Q E hr h=>?_)
 ·obtain⟨b,f,n,bk,fl,rfl,_⟩:=h
  rfl
 ·obtain⟨b,f,n,bk,fl,rfl,hb,lb,hf,of,q⟩:=h
  refine⟨_,(aC (aL (aY D_settled hr (aa (pv 0) (aa (pv 1) (aa (pv 1) aq)))))),?_⟩
  obtain⟨m,hm,st⟩:=kI lb hb.okB of
  exact⟨_,rfl,_,rfl,_,rfl,b,f,f,n,bk,fl,fl,m,rfl,hb,lb,hf,of,hf,of,hm,st,fun r us H' s1 fr er gr=>q m r us H' hm st s1 fr er gr⟩
theorem Es {k:Nat} (F:Fun K "least" "least" uI f fd) (B:Bt mg)
  (D_rise:Df P w K mg base "rise" k ["book","floor"] (kE Kl)):eX P w K mg base CX0 (k+1) f fd ["book","floor"] (ud Kl):=by
 refine F.ok Ex (fun vs H Q E h=>?_) (fun cdv A outer s H vs Q E hr h=>?_)
 ·obtain⟨b,f,n,bk,fl,rfl,_⟩:=h
  rfl
 ·obtain⟨b,f,n,bk,fl,rfl,hb,lb,hf,of,q⟩:=h
  refine⟨_,(aC (aL (bh (r:=fX K) aQ (aY D_rise hr (aa (pv 0) (aa (pv 1) aq))) (Jf zz aB) (fun _ _=>rfl)))),?_⟩
  refine⟨_,rfl,_,rfl,b,f,n,bk,fl,rfl,hb,lb,hf,of,fun m r us H' hm st s1 fr er gr=>?_⟩
  obtain⟨a,ha,ea⟩:=qI gr
  exact⟨_,rfl,r,_,_,_,rfl,rfl,SqL.of er,ha,q m a H' hm st s1 ea⟩
abbrev Ad:Stmt:=top 14
abbrev jV:Stmt:=top 16
theorem Ka:aX ["book","floor"] ["book","floor"] (aJ Ad):=⟨rfl,rfl,rfl,by decide+kernel,rfl,by decide+kernel,by decide+kernel⟩
theorem vd:aX ["book","floor"] ["book","floor"] (aJ jV):=⟨rfl,rfl,rfl,by decide+kernel,rfl,by decide+kernel,by decide+kernel⟩
theorem JQ {k:Nat} (hk:2<=k) (F:Fun K "fall" "fall" Ad f fd) (B:Bt mg)
  (D_settled:Df P w K mg base "settled" k ["book","floor","giving"] (nq K)) (D_roof:Df P w K mg base "roof" 2 ["book","floor"] (Gh K)):eX P w K mg base CX0 (k+1) f fd ["book","floor"] (kE rfF):=by
 refine F.ok Ka (fun vs H Q E h=>?_) (fun cdv A outer s H vs Q E hr h=>?_)
 ·obtain⟨b,f,n,bk,fl,rfl,_⟩:=h
  rfl
 ·obtain⟨b,f,n,bk,fl,rfl,hb,lb,hf,of,q⟩:=h
  refine⟨_,(aC (aL (aY D_settled hr (aa (pv 0) (aa (pv 1) (aa (aY D_roof hr (aa (pv 0) (aa (pv 1) aq))) aq)))))),?_⟩
  obtain⟨m,hm,st⟩:=jO lb hb.okB of
  exact⟨_,rfl,_,rfl,_,rfl,_,rfl,b,f,n,bk,fl,rfl,hb,SqT.of hf,by rw[of.1,lb],fun r1 H1 s1 e1=>⟨b,f,r1,n,bk,fl,rfF fl bk,m,rfl,hb.mono s1,lb,s1 _ _ hf,of,e1,dB lb hb.okB of,hm,st,fun r us H' s2 fr er gr=>q m r us H' hm st (s1.trans s2) (s1.free fr) er gr⟩⟩
theorem vM {k:Nat} (F:Fun K "greatest" "greatest" jV f fd) (B:Bt mg)
  (D_fall:Df P w K mg base "fall" k ["book","floor"] (kE rfF)):eX P w K mg base CX0 (k+1) f fd ["book","floor"] (ud rfF):=by
 refine F.ok vd (fun vs H Q E h=>?_) (fun cdv A outer s H vs Q E hr h=>?_)
 ·obtain⟨b,f,n,bk,fl,rfl,_⟩:=h
  rfl
 ·obtain⟨b,f,n,bk,fl,rfl,hb,lb,hf,of,q⟩:=h
  refine⟨_,(aC (aL (bh (r:=fX K) aQ (aY D_fall hr (aa (pv 0) (aa (pv 1) aq))) (Jf zz aB) (fun _ _=>rfl)))),?_⟩
  refine⟨_,rfl,_,rfl,b,f,n,bk,fl,rfl,hb,lb,hf,of,fun m r us H' hm st s1 fr er gr=>?_⟩
  obtain⟨a,ha,ea⟩:=qI gr
  exact⟨_,rfl,r,_,_,_,rfl,rfl,SqL.of er,ha,q m a H' hm st s1 ea⟩
theorem LeG.trans {a b c:List Int} (h:LeG a b) (k:LeG b c):LeG a c:=fun i=>Int.le_trans (h i) (k i)
section
variable {n:Nat} {fl:List Int} {bk:List (List Pl)}
theorem rC (hb:bk.length=n) (ok:okB bk) (hf:okG n fl) {g:List Int} (h:LeG (eV g fl bk) g):∀ k,LeG (itF (Fd fl bk) fl k) g
 | 0=>(nU hb ok hf g).trans h
 | k+1=>(lY hb ok hf (rC hb ok hf h k)).trans h
theorem m8 (hb:bk.length=n) (ok:okB bk) (hf:okG n fl) {g:List Int} (h:LeG g (eV g fl bk)):∀ k,LeG g (itF (Fd fl bk) (rfF fl bk) k)
 | 0=>h.trans (wy hb ok hf g)
 | k+1=>h.trans (lY hb ok hf (m8 hb ok hf h k))
end
theorem fu.at {H:Hp}:∀ {us:List V} {gs:List (List Int)} {i:Nat} {v:V},fu H us gs->us[i]? = some v->∃ a g,v = .ref a/\gs[i]? = some g/\H a=some (.tup (g.map V.int))/\g.length<=1000
 | _,_,_,_,.nil,h=>by simp at h
 | _,_,0,_,.cons h l _,e=>by
  cases (show some _=some _ from e)
  exact⟨_,_,rfl,rfl,h,l⟩
 | _,_,i+1,_,.cons _ _ r,e=>by
  obtain⟨a,g,h1,h2,h3⟩:=fu.at (i:=i) r (by simpa using e)
  exact⟨a,g,h1,by simpa using h2,h3⟩
section
variable {K:Qp} {σ:St} {H:Hp} {Q:V->Hp->Prop} {i j:Nat} {a:Addr} {k:Nat} {xs:List V}
end
section
variable {n:Nat} {fl:List Int} {bk:List (List Pl)}
theorem DN {i:Nat} (h:i < bk.length):bk.getD i []=bk[i]:=by rw[Pz,Px h]; rfl
theorem fD {g g':List Int} (hl:g.length=g'.length) (h:LeG g g') (h':LeG g' g):g=g':=by
 have e1:=gC hl fun i _=>h i
 have e2:=gC hl.symm fun i _=>h' i
 exact e1.2 (by lia)
end
section
variable {n:Nat} {fl fl':List Int} {bk:List (List Pl)}
theorem iY (hb:bk.length=n) (hf:okG n fl) (g:List Int) {i:Nat} (hi:i < n):(eV g fl bk).getD i 0=max (fl.getD i 0) (duF g 0 (bk.getD i [])):=by
 have h1:i < fl.length:=by rw[hf.1]; exact hi
 have h2:i < bk.length:=by lia
 unfold eV
 rw[fG (duF g) h1 h2,DN h2]
 exact Ej g (dw hf hi).1 _
theorem oH {g g':List Int} (hg:g.length=n) (hg':g'.length=n) (h:∀ i < n,g.getD i 0<=g'.getD i 0):LeG g g':=iC (by lia) fun i hi=>h i (by lia)
end
def Jh (x:Nat):List Nat->List Nat
 | []=>[x]
 | y::r=>if x<=y then x::y::r else y::Jh x r
def mz:List Nat->List Nat
 | []=>[]
 | x::r=>Jh x (mz r)
theorem mK (x:Nat):∀ l:List Nat,(Jh x l).Perm (x::l)
 | []=>.refl _
 | y::r=>by
  rw[Jh]
  split
  ·exact .refl _
  ·exact ((mK x r).cons y).trans (.swap x y r)
theorem cC:∀ l:List Nat,(mz l).Perm l
 | []=>.refl _
 | x::r=>(mK x _).trans ((cC r).cons x)
theorem mU (x:Nat):∀ {l:List Nat},l.Pairwise (·<=·)->(Jh x l).Pairwise (·<=·)
 | [],_=>by rw[Jh]; simp
 | y::r,h=>by
  rw[Jh]
  rw[RX] at h
  split
  ·rw[RX,RX]
   refine⟨fun z hz=>?_,h⟩
   rcases List.mem_cons.mp hz with rfl | hz
   ·assumption
   ·have:=h.1 z hz
    lia
  ·rw[RX]
   refine⟨fun z hz=>?_,mU x h.2⟩
   rcases List.mem_cons.mp ((mK x r).mem_iff.mp hz) with rfl | hz
   ·lia
   ·exact h.1 z hz
theorem dX:∀ l:List Nat,(mz l).Pairwise (·<=·)
 | []=>by rw[mz]; simp
 | x::r=>mU x (dX r)
theorem pU {l:List Nat} {ms:List Int} (p:ms.Perm (l.map fun i:Nat=>(i:Int))) (h:ms.Pairwise (·<=·)):ms=(mz l).map fun i:Nat=>(i:Int):=by
 refine j8 (p.trans ((cC l).map _).symm) h ?_
 rw[RK]
 exact (dX l).imp fun h=>by lia
mutual
def ren (f:Nat->Nat):Tm->Tm
 | .free=>.free
 | .never=>.never
 | .gives i k=>.gives (f i) k
 | .sum c k=>.sum (mz (c.map f)) k
 | .crowd c k m=>.crowd (mz (c.map f)) k m
 | .all ts=>.all (pP f ts)
 | .any ts=>.any (pP f ts)
def pP (f:Nat->Nat):List Tm->List Tm
 | []=>[]
 | t::r=>ren f t::pP f r
end
theorem jH (f:Nat->Nat):∀ ts:List Tm,pP f ts=ts.map (ren f)
 | []=>by rw[pP]; rfl
 | t::r=>by rw[pP,jH f r]; rfl
mutual
theorem uz (f:Nat->Nat):∀ t:Tm,(ren f t).dep=t.dep
 | .free=>by rw[ren]
 | .never=>by rw[ren]
 | .gives i k=>by rw[ren,Tm.dep,Tm.dep] <;> simp
 | .sum c k=>by rw[ren,Tm.dep,Tm.dep] <;> simp
 | .crowd c k m=>by rw[ren,Tm.dep,Tm.dep] <;> simp
 | .all ts=>by rw[ren,Tm.dep,Tm.dep,qe f ts]
 | .any ts=>by rw[ren,Tm.dep,Tm.dep,qe f ts]
theorem qe (f:Nat->Nat):∀ ts:List Tm,tdL (pP f ts)=tdL ts
 | []=>by rw[pP]
 | t::r=>by rw[pP,tdL,tdL,uz f t,qe f r]
end
def dg (rs:List Nat) (i:Nat):Nat:=rs.getD i 0
theorem qu {rs:List Nat} {i:Nat} (h:i < rs.length):dg rs i∈rs:=by
 unfold dg
 rw[Pz,Px h]
 exact Q9 h
theorem Fx {rs:List Nat} (nd:rs.Nodup) {i j:Nat} (hi:i < rs.length) (hj:j < rs.length) (hij:i < j):dg rs i≠dg rs j:=by
 unfold dg
 rw[Pz,Px hi,Pz,Px hj]
 exact List.pairwise_iff_getElem.mp nd i j hi hj hij
theorem rM {rs c:List Nat} {m n:Nat} (nd:rs.Nodup) (hm:m<=rs.length) (hv:∀ x∈rs,x < n) (hc:∀ i∈c,i < m) (hp:c.Pairwise (· < ·)) :
  (∀ i∈mz (c.map (dg rs)),i < n)/\(mz (c.map (dg rs))).Pairwise (· < ·)/\(mz (c.map (dg rs))).length=c.length:=by
 have pm:=cC (c.map (dg rs))
 refine⟨fun i hi=>?_,?_,by rw[pm.length_eq,Pq]⟩
 ·obtain⟨j,hj,rfl⟩:=List.mem_map.mp (pm.mem_iff.mp hi)
  exact hv _ (qu (Ql (hc j hj) hm))
 ·have nd2:(c.map (dg rs)).Nodup:=by
   show (c.map (dg rs)).Pairwise (·≠·)
   rw[RK]
   exact Tr (fun {a b} ha hb h=>Fx nd (Ql (hc a ha) hm) (Ql (hc b hb) hm) h) hp
  have nd3:(mz (c.map (dg rs))).Nodup:=pm.nodup_iff.mpr nd2
  exact ((dX _).and nd3).imp fun h=>by lia
theorem o7 {rs:List Nat} {i:Nat} (h:i < rs.length):atI (rs.map vN) (i:Int)=some (vN (dg rs i)):=by
 refine iB ?_
 unfold dg
 rw[Qj,Pz,Px h]
 rfl
theorem M3 {b:Bool} {A B:Prop} (h:b=true) (a:A):if b=true then A else B:=by rw[if_pos h]; exact a
theorem yc {b:Bool} {A B:Prop} (h:b=false) (a:B):if b=true then A else B:=by rw[if_neg (by rw[h]; exact PQ)]; exact a
abbrev gO:Stmt:=top 33
theorem oJ:aX ["_law_term_here","_law_row"] ["_law_term_here","_law_row"] (aJ gO):=⟨rfl,rfl,rfl,by decide+kernel,rfl,by decide+kernel,by decide+kernel⟩
inductive Ht (K:Qp) (d:Nat) (vs:List V) (H:Hp) (Q:VK):Prop where
 | mk (v:V) (row:Addr) (m n:Nat) (t:Tm) (rs:List Nat) (z0:vs=[v,.ref row]) (z1:iT m H v t) (z2:t.dep<=d) (z3:SqL K H row (rs.map vN)) (z4:m<=rs.length) (z5:rs.Nodup) (z6:(∀ x∈rs,x < n)) (z7:∀ (v':V) (H':Hp),aM H H'->iT n H' v' (ren (dg rs) t)->Q v' H'):Ht K d vs H Q
def vG (K:Qp) (d:Nat):Sp:=fun vs H Q _=>Ht K d vs H Q
theorem Ek:eX P w K mg base CX0 0 f fd ["_law_term_here","_law_row"] (vG K 0):=by
 have no:∀ vs H Q E,¬ vG K 0 vs H Q E:=fun vs H Q E h=>by
  obtain⟨v,row,m,n,t,rs,_,_,h1,_⟩:=h
  have:=t.zZ
  lia
 exact⟨fun vs H Q E h=>absurd h (no vs H Q E),fun A outer s H args us vs Q E _ _ _ _ h=>absurd h (no vs H Q E)⟩
theorem vP {K:Qp} {H H':Hp} {a:Addr} {xs:List V} (e:aM H H') (h:SqL K H a xs):SqL K H' a xs:=e.seq h
theorem eG {d:Nat} (F:Fun K "_law_renamed" "_law_renamed" gO f fd) (B:Bt mg)
  (D_law_renamed:Df P w K mg base "_law_renamed" d ["_law_term_here","_law_row"] (vG K d)):eX P w K mg base CX0 (d+1) f fd ["_law_term_here","_law_row"] (vG K (d+1)):=by
 refine F.ok oJ (fun vs H Q E h=>?_) (fun cdv A outer s H vs Q E hr h=>?_)
 ·obtain⟨v,row,m,n,t,rs,rfl,_⟩:=h
  rfl
 ·obtain⟨v,row,m,n,t,rs,rfl,rt,hd,hR,hm,nd,hv,q⟩:=h
  refine⟨_,(aA (cg (aV gA (bh (r:=jN K) bW (pv 0) aB (fun _ _=>rfl)) cJ (bf _)) (aC (aL (bQ (aa cJ (aa (bh (r:=fX K) aQ (pv 1) (bh (r:=jN K) bW (pv 0) aB (fun _ _=>rfl)) (fun _ _=>rfl)) (aa (bh (r:=jN K) bW (pv 0) aB (fun _ _=>rfl)) aq)))))) aW)
 (aA (cg (aV (r:=rIn K false) jF (bh (r:=jN K) bW (pv 0) aB (fun _ _=>rfl)) (bQ (aa cJ (aa cJ aq))) rfl) (aC (aL (aP (r:=Gv K) Fi (bQ (aa (bh (r:=jN K) bW (pv 0) aB (fun _ _=>rfl)) (aa (bG (r:=fB K) bB rfl B.tuple_ bV (aa (aK (r:=wX K) jT rfl B.sorted_ (by decide+kernel) (aa (bA (L:=["_law_one"]) (F:=["_law_row"]) (cap:=[1]) rfl (bu rfl rfl (by kernel_rfl)) (iM (bh (r:=jN K) bW (pv 0) aB (fun _ _=>rfl))) (fun _ _ _ _ _=>(aG (i:=0) (aO (by decide+kernel)) rfl (Qi rfl))) (fun _ _ _ _ _=>bC) (fun _ _ _ _ _=>(bh (r:=fX K) aQ (pv 1) (pv 0) (fun _ _=>rfl)))) aq)) aq)) aq))) (wF (r:=N8 K) Ms (pv 0) (zc aB) zG)))) aW)
 (aA (cg (aV (r:=rIn K false) jF (bh (r:=jN K) bW (pv 0) aB (fun _ _=>rfl)) (bQ (aa cJ (aa cJ aq))) rfl) (aC (aL (bQ (aa (bh (r:=jN K) bW (pv 0) aB (fun _ _=>rfl)) (aa (bG (r:=fB K) bB rfl B.tuple_ bV (aa (bA (L:=["_law_part"]) (F:=["_law_row"]) (cap:=[1]) rfl (bu rfl rfl (by kernel_rfl)) (iM (bh (r:=jN K) bW (pv 0) aB (fun _ _=>rfl))) (fun _ _ _ _ _=>(aG (i:=0) (aO (by decide+kernel)) rfl (Qi rfl))) (fun _ _ _ _ _=>bC) (fun _ _ _ _ _=>(aY D_law_renamed hr (aa (pv 0) (aa (pv 1) aq))))) aq)) aq))))) aW)
 (aC (aL (pv 0)))))),?_⟩
  cases rt with
  | @free a ha =>
   refine⟨_,rfl,a,_,_,_,rfl,rfl,SqT.of ha,aU (k:=0) rfl,rfl,_,rfl,lJ (bZ (by decide)) ?_⟩
   refine⟨_,rfl,a,_,_,_,rfl,rfl,SqT.of ha,aU (k:=0) rfl,small (by show 2<=1000; decide),fun p1 h1=>⟨p1,_,rfl,.inr (SqT.of aj),rfl,rfl,_,rfl,yc (by decide+kernel) ?_⟩⟩
   generalize eH1:upd H p1 _=H1
   obtain⟨g1,_⟩:=aH eH1 h1
   refine⟨_,rfl,a,_,_,_,rfl,rfl,SqT.of (g1 _ _ ha),aU (k:=0) rfl,small (by show 2<=1000; decide),fun p2 h2=>⟨p2,_,rfl,.inr (SqT.of aj),rfl,rfl,_,rfl,yc (by decide+kernel) ?_⟩⟩
   generalize eH2:upd H1 p2 _=H2
   obtain⟨g2,_⟩:=aH eH2 h2
   refine⟨_,rfl,?_⟩
   have q':=q (.ref a) H2 (g1.trans g2) (by rw[ren]; exact .free (g2 _ _ (g1 _ _ ha)))
   exact q'
  | @never a ha =>
   refine⟨_,rfl,a,_,_,_,rfl,rfl,SqT.of ha,aU (k:=0) rfl,rfl,_,rfl,lJ (bZ (by decide)) ?_⟩
   refine⟨_,rfl,a,_,_,_,rfl,rfl,SqT.of ha,aU (k:=0) rfl,small (by show 2<=1000; decide),fun p1 h1=>⟨p1,_,rfl,.inr (SqT.of aj),rfl,rfl,_,rfl,yc (by decide+kernel) ?_⟩⟩
   generalize eH1:upd H p1 _=H1
   obtain⟨g1,_⟩:=aH eH1 h1
   refine⟨_,rfl,a,_,_,_,rfl,rfl,SqT.of (g1 _ _ ha),aU (k:=0) rfl,small (by show 2<=1000; decide),fun p2 h2=>⟨p2,_,rfl,.inr (SqT.of aj),rfl,rfl,_,rfl,yc (by decide+kernel) ?_⟩⟩
   generalize eH2:upd H1 p2 _=H2
   obtain⟨g2,_⟩:=aH eH2 h2
   refine⟨_,rfl,?_⟩
   have q':=q (.ref a) H2 (g1.trans g2) (by rw[ren]; exact .never (g2 _ _ (g1 _ _ ha)))
   exact q'
  | @gives a i k ha hi k1 k9 =>
   refine⟨_,rfl,a,_,_,_,rfl,rfl,SqT.of ha,aU (k:=0) rfl,rfl,_,rfl,Kd rfl ?_⟩
   refine⟨_,rfl,_,rfl,a,_,_,_,rfl,rfl,SqT.of ha,aU (k:=1) rfl,row,_,_,_,rfl,rfl,hR,o7 (by lia),_,rfl,a,_,_,_,rfl,rfl,SqT.of ha,aU (k:=2) rfl,small (by show 3<=1000; decide),fun p1 h1=>?_⟩
   refine q (.ref p1) _ (au h1 _) ?_
   rw[ren]
   exact .gives aj (hv _ (qu (by lia))) k1 k9
  | @sum a b c k ha hb hc hp l20 l2 k1 k99 =>
   obtain⟨x1,x2,x3⟩:=rM nd hm hv hc hp
   refine⟨_,rfl,a,_,_,_,rfl,rfl,SqT.of ha,aU (k:=0) rfl,rfl,_,rfl,lJ (bZ (by decide)) ?_⟩
   refine⟨_,rfl,a,_,_,_,rfl,rfl,SqT.of ha,aU (k:=0) rfl,small (by show 2<=1000; decide),fun p1 h1=>⟨p1,_,rfl,.inr (SqT.of aj),rfl,rfl,_,rfl,M3 (by decide+kernel) ?_⟩⟩
   generalize eH1:upd H p1 _=H1
   obtain⟨g1,_⟩:=aH eH1 h1
   refine⟨_,rfl,a,_,_,_,rfl,rfl,SqT.of (g1 _ _ ha),aU (k:=0) rfl,?_⟩
   refine⟨_,rfl,a,_,_,_,rfl,rfl,SqT.of (g1 _ _ ha),aU (k:=1) rfl,b,rfl,⟨_,SqT.of (g1 _ _ hb)⟩,fun D hD=>fC (K:=K) (a:=b) (xs:=c.map vN) (fun i zs σ' H2=>(∃ u,σ'=[u,some (.ref row)])/\zs=((c.take i).map (dg rs)).map vN/\aM H1 H2/\H2 D=some (.lst zs))
    ⟨⟨_,rfl⟩,rfl,au hD _,aj⟩ (fun i zs σ' H2 _ h=>⟨SqT.of (h.2.2.1 _ _ (g1 _ _ hb)),h.2.2.2⟩) ?_ ?_⟩
   ·rintro j zs x σ' H2 hx ⟨⟨u,rfl⟩,e1,sm,hDl⟩
    obtain⟨i,hi,rfl⟩:=rT hx
    have him:=hc i (Qu hi)
    refine gT ?_
    refine⟨_,rfl,_,rfl,row,_,_,_,rfl,rfl,vP (g1.trans sm) hR,o7 (by lia),hDl,?_,⟨_,rfl⟩,?_,aF sm hD _,aj⟩
    ·rw[e1,Pq,Pq,Qh]
     exact aD (by lia)
    ·rw[e1,take_snoc (dg rs) hi,PJ]
     rfl
   ·rintro zs σ' H2 ⟨_,e1,sm,hDl⟩
    rw[Pq,Qg] at e1
    refine⟨D,(c.map (dg rs)).map fun i:Nat=>(i:Int),rfl,SqL.of (by rw[hDl,e1,eF]),by rw[Pq,Pq]; lia,fun ms pm so l hl=>?_⟩
    rw[pU pm so,← eF]
    generalize eH3:upd H2 l _=H3
    obtain⟨g3,e3⟩:=aH eH3 hl
    refine⟨l,_,rfl,.inl ⟨SqL.of e3,fun p4 h4=>?_⟩⟩
    generalize eH4:upd H3 p4 _=H4
    obtain⟨g4,e4⟩:=aH eH4 h4
    refine⟨small (by show 2<=1000; decide),fun p5 h5=>?_⟩
    generalize eH5:upd H4 p5 _=H5
    obtain⟨g5,e5⟩:=aH eH5 h5
    have s5:aM H H5:=g1.trans (sm.trans (g3.trans (g4.trans g5)))
    refine⟨_,rfl,_,rfl,a,_,rfl,SqT.of (s5 _ _ ha),(by show ¬ (HT.sIx 3 0 (some 2)=0/\HT.sIx 3 3 none=3); decide),fun p6 h6=>?_⟩
    have ec:Ds [V.str "sum",.ref b,.int k] (some 2) none=[.int k]:=rfl
    rw[ec]
    generalize eH6:upd H5 p6 _=H6
    obtain⟨g6,e6⟩:=aH eH6 h6
    refine⟨p5,p6,_,_,rfl,rfl,SqT.of (g6 _ _ e5),SqT.of e6,small (by show 3<=1000; decide),fun z=>(by cases z),fun _ z=>(by cases z),fun _ _ p7 h7=>?_⟩
    refine q (.ref p7) _ (s5.trans (g6.trans (au h7 _))) ?_
    rw[ren]
    exact .sum aj (au h7 _ _ _ (g6 _ _ (g5 _ _ e4))) x1 x2 (by lia) (by lia) k1 k99
  | @crowd a b c k mm ha hb hc hp l20 l1 k1 k9 m1 m12 =>
   obtain⟨x1,x2,x3⟩:=rM nd hm hv hc hp
   refine⟨_,rfl,a,_,_,_,rfl,rfl,SqT.of ha,aU (k:=0) rfl,rfl,_,rfl,lJ (bZ (by decide)) ?_⟩
   refine⟨_,rfl,a,_,_,_,rfl,rfl,SqT.of ha,aU (k:=0) rfl,small (by show 2<=1000; decide),fun p1 h1=>⟨p1,_,rfl,.inr (SqT.of aj),rfl,rfl,_,rfl,M3 (by decide+kernel) ?_⟩⟩
   generalize eH1:upd H p1 _=H1
   obtain⟨g1,_⟩:=aH eH1 h1
   refine⟨_,rfl,a,_,_,_,rfl,rfl,SqT.of (g1 _ _ ha),aU (k:=0) rfl,?_⟩
   refine⟨_,rfl,a,_,_,_,rfl,rfl,SqT.of (g1 _ _ ha),aU (k:=1) rfl,b,rfl,⟨_,SqT.of (g1 _ _ hb)⟩,fun D hD=>fC (K:=K) (a:=b) (xs:=c.map vN) (fun i zs σ' H2=>(∃ u,σ'=[u,some (.ref row)])/\zs=((c.take i).map (dg rs)).map vN/\aM H1 H2/\H2 D=some (.lst zs))
    ⟨⟨_,rfl⟩,rfl,au hD _,aj⟩ (fun i zs σ' H2 _ h=>⟨SqT.of (h.2.2.1 _ _ (g1 _ _ hb)),h.2.2.2⟩) ?_ ?_⟩
   ·rintro j zs x σ' H2 hx ⟨⟨u,rfl⟩,e1,sm,hDl⟩
    obtain⟨i,hi,rfl⟩:=rT hx
    have him:=hc i (Qu hi)
    refine gT ?_
    refine⟨_,rfl,_,rfl,row,_,_,_,rfl,rfl,vP (g1.trans sm) hR,o7 (by lia),hDl,?_,⟨_,rfl⟩,?_,aF sm hD _,aj⟩
    ·rw[e1,Pq,Pq,Qh]
     exact aD (by lia)
    ·rw[e1,take_snoc (dg rs) hi,PJ]
     rfl
   ·rintro zs σ' H2 ⟨_,e1,sm,hDl⟩
    rw[Pq,Qg] at e1
    refine⟨D,(c.map (dg rs)).map fun i:Nat=>(i:Int),rfl,SqL.of (by rw[hDl,e1,eF]),by rw[Pq,Pq]; lia,fun ms pm so l hl=>?_⟩
    rw[pU pm so,← eF]
    generalize eH3:upd H2 l _=H3
    obtain⟨g3,e3⟩:=aH eH3 hl
    refine⟨l,_,rfl,.inl ⟨SqL.of e3,fun p4 h4=>?_⟩⟩
    generalize eH4:upd H3 p4 _=H4
    obtain⟨g4,e4⟩:=aH eH4 h4
    refine⟨small (by show 2<=1000; decide),fun p5 h5=>?_⟩
    generalize eH5:upd H4 p5 _=H5
    obtain⟨g5,e5⟩:=aH eH5 h5
    have s5:aM H H5:=g1.trans (sm.trans (g3.trans (g4.trans g5)))
    refine⟨_,rfl,_,rfl,a,_,rfl,SqT.of (s5 _ _ ha),(by show ¬ (HT.sIx 4 0 (some 2)=0/\HT.sIx 4 4 none=4); decide),fun p6 h6=>?_⟩
    have ec:Ds [V.str "crowd",.ref b,.int k,.int mm] (some 2) none=[.int k,.int mm]:=rfl
    rw[ec]
    generalize eH6:upd H5 p6 _=H6
    obtain⟨g6,e6⟩:=aH eH6 h6
    refine⟨p5,p6,_,_,rfl,rfl,SqT.of (g6 _ _ e5),SqT.of e6,small (by show 4<=1000; decide),fun z=>(by cases z),fun _ z=>(by cases z),fun _ _ p7 h7=>?_⟩
    refine q (.ref p7) _ (s5.trans (g6.trans (au h7 _))) ?_
    rw[ren]
    exact .crowd aj (au h7 _ _ _ (g6 _ _ (g5 _ _ e4))) x1 x2 (by lia) (by lia) k1 k9 m1 m12
  | @all a b us ts ha hb l2 l6 rl =>
   have hdl:tdL ts<=d:=by rw[Tm.dep] at hd; lia
   have el:=rl.length
   refine⟨_,rfl,a,_,_,_,rfl,rfl,SqT.of ha,aU (k:=0) rfl,rfl,_,rfl,lJ (bZ (by decide)) ?_⟩
   refine⟨_,rfl,a,_,_,_,rfl,rfl,SqT.of ha,aU (k:=0) rfl,small (by show 2<=1000; decide),fun p1 h1=>⟨p1,_,rfl,.inr (SqT.of aj),rfl,rfl,_,rfl,yc (by decide+kernel) ?_⟩⟩
   generalize eH1:upd H p1 _=H1
   obtain⟨g1,_⟩:=aH eH1 h1
   refine⟨_,rfl,a,_,_,_,rfl,rfl,SqT.of (g1 _ _ ha),aU (k:=0) rfl,small (by show 2<=1000; decide),fun p2 h2=>⟨p2,_,rfl,.inr (SqT.of aj),rfl,rfl,_,rfl,M3 (by decide+kernel) ?_⟩⟩
   generalize eH2:upd H1 p2 _=H2
   obtain⟨g2,_⟩:=aH eH2 h2
   have s2:aM H H2:=g1.trans g2
   refine⟨_,rfl,a,_,_,_,rfl,rfl,SqT.of (s2 _ _ ha),aU (k:=0) rfl,?_⟩
   refine⟨_,rfl,a,_,_,_,rfl,rfl,SqT.of (s2 _ _ ha),aU (k:=1) rfl,b,rfl,⟨_,SqT.of (s2 _ _ hb)⟩,fun D hD=>fC (K:=K) (a:=b) (xs:=us) (fun i zs σ' H3=>(∃ u,σ'=[u,some (.ref row)])/\zs.length=i/\aM H2 H3/\H3 D=some (.lst zs)/\cZ n H3 zs (pP (dg rs) (ts.take i)))
    ⟨⟨_,rfl⟩,rfl,au hD _,aj,by rw[Rt,pP]; exact .nil⟩ (fun i zs σ' H3 _ h=>⟨SqT.of (h.2.2.1 _ _ (s2 _ _ hb)),h.2.2.2.1⟩) ?_ ?_⟩
   ·rintro j zs x σ' H3 hx ⟨⟨u,rfl⟩,lz,sm,hDl,rz⟩
    obtain⟨t,ht,rt⟩:=rl.get hx
    have hj:=(List.getElem?_eq_some_iff.mp hx).1
    refine gT ?_
    refine⟨_,rfl,_,rfl,x,row,m,n,t,rs,rfl,rt.mono (s2.trans sm),Q0 (nY ht) hdl,vP (s2.trans sm) hR,hm,nd,hv,fun v' H4 s4 r4=>?_⟩
    have s7:=bR (zs':=zs++[v']) (s4 _ _ hDl)
    refine⟨s4 _ _ hDl,aD (by lia),⟨_,rfl⟩,by rw[Qf,lz]; rfl,aF (sm.trans s4) hD _,aj,?_⟩
    rw[jH,take_snoc (ren (dg rs)) ht,← jH]
    exact ((rz.mono s4).bj s7).snoc (r4.bj s7)
   ·rintro zs σ' H3 ⟨_,lz,sm,hDl,rz⟩
    rw[el,Qg] at rz
    refine⟨D,_,rfl,.inl ⟨SqL.of hDl,fun p4 h4=>?_⟩⟩
    generalize eH4:upd H3 p4 _=H4
    obtain⟨g4,e4⟩:=aH eH4 h4
    refine⟨small (by show 2<=1000; decide),fun p5 h5=>?_⟩
    refine q (.ref p5) _ (s2.trans (sm.trans (g4.trans (au h5 _)))) ?_
    rw[ren]
    exact .all aj (au h5 _ _ _ e4) (by lia) (by lia) (rz.mono (g4.trans (au h5 _)))
  | @any a b us ts ha hb l2 l6 rl =>
   have hdl:tdL ts<=d:=by rw[Tm.dep] at hd; lia
   have el:=rl.length
   refine⟨_,rfl,a,_,_,_,rfl,rfl,SqT.of ha,aU (k:=0) rfl,rfl,_,rfl,lJ (bZ (by decide)) ?_⟩
   refine⟨_,rfl,a,_,_,_,rfl,rfl,SqT.of ha,aU (k:=0) rfl,small (by show 2<=1000; decide),fun p1 h1=>⟨p1,_,rfl,.inr (SqT.of aj),rfl,rfl,_,rfl,yc (by decide+kernel) ?_⟩⟩
   generalize eH1:upd H p1 _=H1
   obtain⟨g1,_⟩:=aH eH1 h1
   refine⟨_,rfl,a,_,_,_,rfl,rfl,SqT.of (g1 _ _ ha),aU (k:=0) rfl,small (by show 2<=1000; decide),fun p2 h2=>⟨p2,_,rfl,.inr (SqT.of aj),rfl,rfl,_,rfl,M3 (by decide+kernel) ?_⟩⟩
   generalize eH2:upd H1 p2 _=H2
   obtain⟨g2,_⟩:=aH eH2 h2
   have s2:aM H H2:=g1.trans g2
   refine⟨_,rfl,a,_,_,_,rfl,rfl,SqT.of (s2 _ _ ha),aU (k:=0) rfl,?_⟩
   refine⟨_,rfl,a,_,_,_,rfl,rfl,SqT.of (s2 _ _ ha),aU (k:=1) rfl,b,rfl,⟨_,SqT.of (s2 _ _ hb)⟩,fun D hD=>fC (K:=K) (a:=b) (xs:=us) (fun i zs σ' H3=>(∃ u,σ'=[u,some (.ref row)])/\zs.length=i/\aM H2 H3/\H3 D=some (.lst zs)/\cZ n H3 zs (pP (dg rs) (ts.take i)))
    ⟨⟨_,rfl⟩,rfl,au hD _,aj,by rw[Rt,pP]; exact .nil⟩ (fun i zs σ' H3 _ h=>⟨SqT.of (h.2.2.1 _ _ (s2 _ _ hb)),h.2.2.2.1⟩) ?_ ?_⟩
   ·rintro j zs x σ' H3 hx ⟨⟨u,rfl⟩,lz,sm,hDl,rz⟩
    obtain⟨t,ht,rt⟩:=rl.get hx
    have hj:=(List.getElem?_eq_some_iff.mp hx).1
    refine gT ?_
    refine⟨_,rfl,_,rfl,x,row,m,n,t,rs,rfl,rt.mono (s2.trans sm),Q0 (nY ht) hdl,vP (s2.trans sm) hR,hm,nd,hv,fun v' H4 s4 r4=>?_⟩
    have s7:=bR (zs':=zs++[v']) (s4 _ _ hDl)
    refine⟨s4 _ _ hDl,aD (by lia),⟨_,rfl⟩,by rw[Qf,lz]; rfl,aF (sm.trans s4) hD _,aj,?_⟩
    rw[jH,take_snoc (ren (dg rs)) ht,← jH]
    exact ((rz.mono s4).bj s7).snoc (r4.bj s7)
   ·rintro zs σ' H3 ⟨_,lz,sm,hDl,rz⟩
    rw[el,Qg] at rz
    refine⟨D,_,rfl,.inl ⟨SqL.of hDl,fun p4 h4=>?_⟩⟩
    generalize eH4:upd H3 p4 _=H4
    obtain⟨g4,e4⟩:=aH eH4 h4
    refine⟨small (by show 2<=1000; decide),fun p5 h5=>?_⟩
    refine q (.ref p5) _ (s2.trans (sm.trans (g4.trans (au h5 _)))) ?_
    rw[ren]
    exact .any aj (au h5 _ _ _ e4) (by lia) (by lia) (rz.mono (g4.trans (au h5 _)))
theorem mX {p q:Nat->Bool}:∀ {l:List Nat},(∀ x∈l,p x=q x)->l.filter p=l.filter q
 | [],_=>rfl
 | x::r,h=>by
  rw[Ss,Ss,h x PN,mX fun y hy=>h y (Qc _ hy)]
theorem fY (f:Nat->Nat) (p:Nat->Bool):∀ l:List Nat,((l.map f).filter p).length=(l.filter fun i=>p (f i)).length
 | []=>rfl
 | x::r=>by
  rw[QH,Ss,Ss]
  by_cases h:p (f x)=true
  ·rw[if_pos h,if_pos h,Qk,Qk,fY f p r]
  ·rw[if_neg h,if_neg h,fY f p r]
theorem FP:∀ {l l':List Int},l.Perm l'->l.sum=l'.sum:=fun h=>by
 induction h with
 | nil=>rfl
 | cons x _ ih=>rw[S5,S5,ih]
 | swap x y l=>rw[S5,S5,S5,S5]; lia
 | trans _ _ h1 h2=>exact h1.trans h2
mutual
theorem BR {n:Nat} {H:Hp} {f:Nat->Nat} {g g':List Int} (hg:∀ i < n,g'.getD (f i) 0=g.getD i 0):∀ {v:V} {t:Tm},iT n H v t->hF g' (ren f t)=hF g t
 | _,_,.free _=>by rw[ren,hF,hF]
 | _,_,.never _=>by rw[ren,hF,hF]
 | _,_,.gives _ hi _ _=>by rw[ren,hF,hF,hg _ hi]
 | _,_,.sum (c:=c) _ _ hc _ _ _ _ _=>by
  rw[ren,hF,hF]
  have e:((mz (c.map f)).map fun i=>g'.getD i 0).sum=(c.map fun i=>g.getD i 0).sum:=by
   rw[FP ((cC (c.map f)).map fun i=>g'.getD i 0),RL]
   congr 1
   exact Sy fun i hi=>hg i (hc i hi)
  rw[e]
 | _,_,.crowd (c:=c) (k:=k) _ _ hc _ _ _ _ _ _ _=>by
  rw[ren,hF,hF]
  have e:((mz (c.map f)).filter fun i=>decide (k<=g'.getD i 0)).length=(c.filter fun i=>decide (k<=g.getD i 0)).length:=by
   rw[((cC (c.map f)).filter fun i=>decide (k<=g'.getD i 0)).length_eq,fY]
   rw[mX fun i hi=>by rw[hg i (hc i hi)]]
  rw[e]
 | _,_,.all _ _ _ _ rl=>by rw[ren,hF,hF,wj hg rl]
 | _,_,.any _ _ _ _ rl=>by rw[ren,hF,hF,vX hg rl]
theorem wj {n:Nat} {H:Hp} {f:Nat->Nat} {g g':List Int} (hg:∀ i < n,g'.getD (f i) 0=g.getD i 0):∀ {vs:List V} {ts:List Tm},cZ n H vs ts->lR g' (pP f ts)=lR g ts
 | _,_,.nil=>by rw[pP,lR,lR]
 | _,_,.cons h r=>by rw[pP,lR,lR,BR hg h,wj hg r]
theorem vX {n:Nat} {H:Hp} {f:Nat->Nat} {g g':List Int} (hg:∀ i < n,g'.getD (f i) 0=g.getD i 0):∀ {vs:List V} {ts:List Tm},cZ n H vs ts->lO g' (pP f ts)=lO g ts
 | _,_,.nil=>by rw[pP,lO,lO]
 | _,_,.cons h r=>by rw[pP,lO,lO,BR hg h,vX hg r]
end
theorem Ei {f f':Nat->Nat} {n:Nat} (hf:∀ i < n,f' (f i)=i) {c:List Nat} (hc:∀ i∈c,i < n) (hp:c.Pairwise (· < ·)):mz ((mz (c.map f)).map f')=c:=by
 have p1:(mz ((mz (c.map f)).map f')).Perm c:=by
  refine (cC _).trans (((cC (c.map f)).map f').trans ?_)
  rw[RL]
  have:c.map (f' ∘ f)=c.map id:=Sy fun i hi=>hf i (hc i hi)
  rw[this,List.map_id]
 have h2:(mz ((mz (c.map f)).map f')).Pairwise (·<=·):=dX _
 have h3:c.Pairwise (·<=·):=hp.imp fun h=>by lia
 have e:=j8 (p1.map fun i:Nat=>(i:Int)) (by rw[RK]; exact h2.imp fun h=>by lia) (by rw[RK]; exact h3.imp fun h=>by lia)
 exact Xa (fun a b h=>by lia) |>.mp e
def shN (one k:Nat):Nat:=k+if one<=k then 1 else 0
def shR (one m:Nat):List Nat:=(PL m).map (shN one)
theorem Ao (one m:Nat):(shR one m).Nodup:=by
 unfold shR
 show ((PL m).map (shN one)).Pairwise (·≠·)
 rw[RK]
 refine List.pairwise_lt_range.imp fun {a b} h=>?_
 unfold shN
 split <;> split <;> lia
theorem Ks {one m:Nat}:∀ x∈shR one m,x < m+1:=fun x hx=>by
 unfold shR at hx
 obtain⟨k,hk,rfl⟩:=List.mem_map.mp hx
 have:=List.mem_range.mp hk
 unfold shN
 split <;> lia
abbrev j6:Stmt:=top 34
theorem vy:aX ["_law_cell_here","_law_n","_law_one","_law_deep","_law_most"] ["_law_cell_here","_law_n","_law_one","_law_deep","_law_most"] (aJ j6):=⟨rfl,rfl,rfl,by decide+kernel,rfl,by decide+kernel,by decide+kernel⟩
inductive zE (vs:List V) (H:Hp) (Q:VK):Prop where
 | mk (c:Int) (n one:Nat) (deep:Int) (mo:Nat) (z0:vs=[.int c,.int (n:Int),.int (one:Int),.int deep,.int (mo:Int)]) (z1:1<=n) (z2:n<=12) (z3:one < n) (z4:1<=deep) (z5:deep<=3) (z6:1<=mo) (z7:mo<=9) (z8:∀ (v:V) (t:Tm) (H':Hp),aM H H'->iT n H' v t->t.dep<=3->Q v H'):zE  vs H Q
def GZ:Sp:=fun vs H Q _=>zE  vs H Q
theorem uY (F:Fun K "_law_mine" "_law_mine" j6 f fd) (B:Bt mg)
  (D_law_term:Df P w K mg base "_law_term" 4 ["_law_cell_here","_law_n","_law_deep","_law_most"] (pB 3)) (D_law_renamed:Df P w K mg base "_law_renamed" 3 ["_law_term_here","_law_row"] (vG K 3)):eX P w K mg base CX0 5 f fd ["_law_cell_here","_law_n","_law_one","_law_deep","_law_most"] GZ:=by
 refine F.ok vy (fun vs H Q E h=>?_) (fun cdv A outer s H vs Q E hr h=>?_)
 ·obtain⟨c,n,one,deep,mo,rfl,_⟩:=h
  rfl
 ·obtain⟨c,n,one,deep,mo,rfl,n1,n12,hone,de1,de3,m1,m9,q⟩:=h
  refine⟨_,(aA (cg (aV gA (pv 1) aB (bf _)) (aC (aL (bQ (aa (bh (r:=fX K) aQ (bK (aa cJ (aa cJ (aa cJ aq)))) (aP cU (pv 0) aB) (fun _ _=>rfl)) aq)))) aW)
 (aC (aL (aY D_law_renamed hr (aa (aY D_law_term hr (aa (pv 0) (aa (aP nG (pv 1) aB) (aa (pv 3) (aa (pv 4) aq))))) (aa (bA (L:=["_law_k"]) (F:=["_law_one"]) (cap:=[2]) rfl (bu rfl rfl (by kernel_rfl)) (cG rfl B.range_ (aa (aP nG (pv 1) aB) aq)) (fun _ _ _ _ _=>(aG (i:=0) (aO (by decide+kernel)) rfl (Qi rfl))) (fun _ _ _ _ _=>bC) (fun _ _ _ _ _=>(aP bT (pv 0) (bG (r:=Nj) CJ rfl B.int_ Dk (aa (gf yw (pv 0) (pv 1) (bf _)) aq))))) aq)))))),?_⟩
  refine⟨_,rfl,rfl,_,rfl,?_⟩
  refine yP (fun c1=>?_) (fun c1=>?_)
  ·have en:n=1:=by
    have:=of_decide_eq_true c1
    cases n with
    | zero=>lia
    | succ n=>injection this with z; lia
   subst en
   refine⟨small (by show 3<=1000; decide),fun p7 h7=>?_⟩
   generalize eH7:upd H p7 _=H7
   obtain⟨g7,e7⟩:=aH eH7 h7
   have fin:∀ p8 (x:Rr),H7 p8=none->(x = "free"∨x = "never")->Q (.ref p8) (upd H7 p8 (.tup [.str x])):=fun p8 x h8 hx=>by
    rcases hx with rfl | rfl
    ·exact q (.ref p8) .free _ (g7.trans (au h8 _)) (.free aj) (by decide)
    ·exact q (.ref p8) .never _ (g7.trans (au h8 _)) (.never aj) (by decide)
   refine⟨_,rfl,_,_,rfl,rfl,(by show (0:Int) < 3; decide),?_⟩
   have u1:0<=c % 3:=Ri _ (by lia)
   have u2:c % 3 < 3:=QL _ (by lia)
   rcases (show c % 3=0∨c % 3=1∨c % 3=2 by lia) with z | z | z
   ·exact⟨p7,_,_,_,rfl,rfl,SqL.of e7,by rw[z]; rfl,small (by show 1<=1000; decide),fun p8 h8=>fin p8 _ h8 (.inl rfl)⟩
   ·exact⟨p7,_,_,_,rfl,rfl,SqL.of e7,by rw[z]; rfl,small (by show 1<=1000; decide),fun p8 h8=>fin p8 _ h8 (.inr rfl)⟩
   ·exact⟨p7,_,_,_,rfl,rfl,SqL.of e7,by rw[z]; rfl,small (by show 1<=1000; decide),fun p8 h8=>fin p8 _ h8 (.inl rfl)⟩
  ·have en:n≠1:=fun z=>c1 (decide_eq_true (by rw[z]; rfl))
   obtain⟨m,rfl⟩:∃ m,n=m+1:=⟨n - 1,by lia⟩
   have em:((m+1:Nat):Int) - 1=(m:Int):=by lia
   have et:(((m+1:Nat):Int) - 1).toNat=m:=by lia
   refine⟨_,rfl,_,rfl,_,_,rfl,rfl,_,rfl,_,rfl,c,m,deep,(mo:Int),(by show[V.int c,V.int (((m+1:Nat):Int) - 1),V.int deep,V.int (mo:Int)]=_; rw[em]),by lia,by lia,de1,by lia,by lia,by lia,fun v t H1 s1 rt td=>?_⟩
   refine⟨_,rfl,_,_,rfl,rfl,_,rfl,by lia,by lia,fun D hD=>dm (lo:=0) (n:=(((m+1:Nat):Int) - 1).toNat) (fun i zs σ' H2=>(∃ u,σ'=[u,some (.int (one:Int))])/\zs=((PL i).map (shN one)).map vN/\aM H1 H2/\H2 D=some (.lst zs))
    ⟨⟨_,rfl⟩,rfl,au hD _,aj⟩ (fun i zs σ' H2 _ h=>h.2.2.2) ?_ ?_⟩
   ·rintro i zs σ' H2 hi ⟨⟨u,rfl⟩,e1,sm,hDl⟩
    refine gT ?_
    refine⟨_,rfl,_,rfl,_,rfl,_,_,rfl,rfl,.inr ⟨_,rfl,_,_,rfl,rfl,hDl,?_,⟨_,rfl⟩,?_,aF sm hD _,aj⟩⟩
    ·rw[e1,Pq,Pq,Qn]
     exact aD (by lia)
    ·rw[e1,Sw,PJ,PJ]
     congr 1
     show[V.int (0+(i:Int)+_)]=[V.int ((shN one i:Nat):Int)]
     congr 2
     unfold shN
     by_cases hc:one<=i
     ·rw[decide_eq_true (by lia),if_pos hc]
      simp
     ·rw[decide_eq_false (by lia),if_neg hc]
      simp
   ·rintro zs σ' H2 ⟨_,e1,sm,hDl⟩
    rw[et] at e1
    refine⟨v,D,m,m+1,t,shR one m,rfl,rt.mono sm,by lia,SqL.of (by rw[hDl,e1]; rfl),by unfold shR; rw[Pq,Qn]; lia,Ao one m,Ks,fun v' H3 s3 r3=>?_⟩
    exact q v' _ H3 (s1.trans (sm.trans s3)) r3 (by rw[uz]; lia)
theorem Cu {x:Int}:∀ (ns acc:List Int),x∈ns.foldl RZ acc ↔ x∈acc∨x∈ns
 | [],acc=>by simp
 | n::r,acc=>by
  rw[Rh,Cu r _]
  unfold RZ
  split
  ·rename_i h
   obtain⟨y,hy,ey⟩:=List.any_eq_true.mp h
   have e:=eq_of_beq ey
   constructor
   ·rintro (h | h)
    ·exact .inl h
    ·exact .inr (Qc _ h)
   ·rintro (h | h)
    ·exact .inl h
    ·rcases List.mem_cons.mp h with rfl | h
     ·exact .inl (by rw[← e]; exact hy)
     ·exact .inr h
  ·constructor
   ·rintro (h | h)
    ·rcases List.mem_append.mp h with h | h
     ·exact .inl h
     ·exact .inr (by rw[List.mem_singleton.mp h]; exact PN)
    ·exact .inr (Qc _ h)
   ·rintro (h | h)
    ·exact .inl (WT _ h)
    ·rcases List.mem_cons.mp h with rfl | h
     ·exact .inl (Rq _ PN)
     ·exact .inr h
def okS (ms:List Int):Prop:=ms≠[]/\ms.length<=9/\ms.Pairwise (· < ·)/\∀ x∈ms,1<=x/\x<=9
theorem Lr {ns ms:List Int} (p:ms.Perm (ddI ns)) (so:ms.Pairwise (·<=·)) (h0:ns≠[]) (h9:ns.length<=9) (hb:∀ x∈ns,1<=x/\x<=9):okS ms:=by
 rw[BP] at p
 have mem:∀ x,x∈ms ↔ x∈ns:=fun x=>by rw[p.mem_iff,Cu]; simp
 refine⟨fun z=>?_,?_,?_,fun x hx=>hb x ((mem x).mp hx)⟩
 ·cases ns with
  | nil=>exact h0 rfl
  | cons a r =>
   have:=(mem a).mpr PN
   rw[z] at this
   cases this
 ·have:=CK ns []
  rw[p.length_eq]
  simp at this
  lia
 ·have nd:ms.Nodup:=p.nodup_iff.mpr (wC ns [] (by simp))
  exact (so.and nd).imp fun h=>by lia
theorem KJ {ns ms:List Int} (p:ms.Perm (ddI ns)) {x:Int} (h:x∈ms):x∈ns:=by
 rw[BP] at p
 have:=p.mem_iff.mp h
 rw[Cu] at this
 simpa using this
theorem zW {ms:List Int} (h:okS ms) {p:Pl} (e:p.map (·.1)=ms) (hd:∀ x∈p,x.2.dep<=4):okP p:=by
 refine⟨fun z=>?_,?_,by rw[e]; exact h.2.2.1,fun x hx=>?_⟩
 ·subst z
  exact h.1 e.symm
 ·have:=congrArg Vv e
  rw[Pq] at this
  have:=h.2.1
  lia
 ·have hm:x.1∈ms:=by rw[← e]; exact List.mem_map.mpr ⟨x,hx,rfl⟩
  exact⟨(h.2.2.2 _ hm).1,(h.2.2.2 _ hm).2,hd x hx⟩
abbrev iD:Stmt:=top 35
theorem bI:aX ["_law_cell_here","_law_n","_law_one","_law_deep","_law_most","_law_drawn","_law_steps","_law_other_one","_law_found","_law_k","_law_step"] ["_law_cell_here","_law_n","_law_one","_law_deep","_law_most"] (aJ iD):=⟨rfl,rfl,rfl,by decide+kernel,rfl,by decide+kernel,by decide+kernel⟩
inductive uc (vs:List V) (H:Hp) (Q:VK):Prop where
 | mk (c:Int) (n one:Nat) (deep:Int) (mo:Nat) (z0:vs=[.int c,.int (n:Int),.int (one:Int),.int deep,.int (mo:Int)]) (z1:1<=n) (z2:n<=12) (z3:one < n) (z4:1<=deep) (z5:deep<=3) (z6:1<=mo) (z7:mo<=9) (z8:∀ (a:Addr) (p:Pl) (H':Hp),aM H H'->za n H' a p->(∀ x∈p,x.1<=(mo:Int))->Q (.ref a) H'):uc  vs H Q
def wO:Sp:=fun vs H Q _=>uc  vs H Q
theorem pO (F:Fun K "_law_pledge" "_law_pledge" iD f fd) (B:Bt mg)
  (D_law_draws:Df P w K mg base "_law_draws" 1 ["_law_cell_here","_law_parts"] (jb K)) (D_law_under:Df P w K mg base "_law_under" 1 ["_law_cell_here","_law_k"] qK) (D_law_crowd:Df P w K mg base "_law_crowd" 1 ["_law_number","_law_n"] vR)
  (D_law_mine:Df P w K mg base "_law_mine" 5 ["_law_cell_here","_law_n","_law_one","_law_deep","_law_most"] GZ):eX P w K mg base CX0 6 f fd ["_law_cell_here","_law_n","_law_one","_law_deep","_law_most"] wO:=by
 refine F.ok bI (fun vs H Q E h=>?_) (fun cdv A outer s H vs Q E hr h=>?_)
 ·obtain⟨c,n,one,deep,mo,rfl,_⟩:=h
  rfl
 ·obtain⟨c,n,one,deep,mo,rfl,n1,n12,hone,de1,de3,m1,m9,q⟩:=h
  refine⟨_,(aA (aR (i:=5) bI.nd rfl (Wg rfl) (aY D_law_draws hr (aa (pv 0) (aa (bK (aa aB (aa aB (aa aB (aa aB (aa aB (aa aB aq))))))) aq))))
 (aA (aR (i:=6) bI.nd rfl (Qi rfl) (rA rfl rfl B.sorted_ rfl B.set_ (aa (bA (L:=["_law_k"]) (F:=["_law_most","_law_drawn"]) (cap:=[4,5]) rfl (bu rfl rfl (by kernel_rfl)) (cG rfl B.range_ (aa (aP bT aB (aP cU (bh (r:=fX K) aQ (pv 5) aB (fun _ _=>rfl)) aB)) aq)) (fun _ _ _ _ _=>(aG (i:=0) (aO (by decide+kernel)) rfl (Qi rfl))) (fun _ _ _ _ _=>bC) (fun _ _ _ _ _=>(aP bT aB (aP cU (bh (r:=fX K) aQ (pv 2) (aP bT aB (pv 0)) (fun _ _=>rfl)) (pv 1))))) aq)))
 (aA (cg (aV gA (bh (r:=fX K) aQ (pv 5) aB (fun _ _=>rfl)) aB (bf _)) (aA (zj (L:=["_law_step"]) (F:=[]) (cap:=[]) (j:=6) bI.nd rfl (Qi rfl) rfl (bu rfl rfl (by kernel_rfl)) (iM (aY D_law_crowd hr (aa (bh (r:=fX K) aQ (pv 5) aB (fun _ _=>rfl)) (aa (pv 4) aq)))) (fun _ _ _ _ _=>(aG (i:=0) (aO (by decide+kernel)) rfl (Qi rfl))) (fun _ _ _ _ _=>bC) (fun _ _ _ _ _=>(aP bT aB (pv 0))))
 (aC (cg (aV (r:=Oo K) (Ls hr.mF) (pv 6) (bK aq) (bf _)) (aC (aR (i:=6) bI.nd rfl (Qi rfl) (bK (aa (pv 4) aq)))) aW))) aW)
 (aA (cg (PW.pt (sI (aV gA (bh (r:=fX K) aQ (pv 5) aB (fun _ _=>rfl)) aB (bf _)) (m5 (aV vH (pv 1) aB (bf _))))) (aC (aL (bG (r:=fB K) bB rfl B.tuple_ bV (aa (bA (L:=["_law_step"]) (F:=["_law_n","_law_one"]) (cap:=[1,2]) rfl (bu rfl rfl (by kernel_rfl)) (dY (pv 6)) (fun _ _ _ _ _=>(aG (i:=0) (aO (by decide+kernel)) rfl (Qi rfl))) (fun _ _ _ _ _=>bC) (fun _ _ _ _ _=>(bQ (aa (pv 0) (aa (bQ (aa cJ (aa (aP cU (aP bT (pv 2) aB) (pv 1)) (aa (pv 0) aq)))) aq))))) aq)))) aW)
 (aA (cg (PW.pt (sI (aV gA (bh (r:=fX K) aQ (pv 5) aB (fun _ _=>rfl)) aB (bf _)) (m5 (aV vH (pv 1) aB (bf _))))) (aA (aR (i:=7) bI.nd rfl (Wg rfl) (aP cU (aP bT (aP bT (pv 2) aB) (aP cU (bh (r:=fX K) aQ (pv 5) aB (fun _ _=>rfl)) (aP nG (pv 1) aB))) (pv 1)))
 (aC (aL (bG (r:=fB K) bB rfl B.tuple_ bV (aa (bA (L:=["_law_step"]) (F:=["_law_other_one"]) (cap:=[7]) rfl (bu rfl rfl (by kernel_rfl)) (dY (pv 6)) (fun _ _ _ _ _=>(aG (i:=0) (aO (by decide+kernel)) rfl (Qi rfl))) (fun _ _ _ _ _=>bC) (fun _ _ _ _ _=>(bQ (aa (pv 0) (aa (bQ (aa cJ (aa (pv 1) (aa (aK (Cv rfl) rfl B.max_ wK (aa aB (aa (aP nG (pv 0) aB) aq))) aq)))) aq))))) aq))))) aW)
 (aA (aR (i:=8) bI.nd rfl (Qi rfl) (bK aq))
 (aA (gK Ro rfl (Di rfl B.enumerate_ (aa (pv 6) aq)) (eE (K:=K) 2 rfl rfl (aZ (aG (i:=9) bI.nd rfl (Qi rfl)) (aZ (aG (i:=10) bI.nd rfl (Qi rfl)) dR))) (aC (gk (jX QB Rm Rk cM (pv 8) (aa (bQ (aa (pv 10) (aa (aY D_law_mine hr (aa (aY D_law_under hr (aa (pv 0) (aa (pv 9) aq))) (aa (pv 1) (aa (pv 2) (aa (pv 3) (aa (pv 4) aq)))))) aq))) aq)))))
 (aC (aL (bG (r:=fB K) bB rfl B.tuple_ bV (aa (pv 8) aq))))))))))),?_⟩
  refine⟨_,rfl,small (by show 6<=1000; decide),fun p1 h1=>?_⟩
  generalize eH1:upd H p1 _=H1
  obtain⟨g1,e1⟩:=aH eH1 h1
  refine⟨c,p1,[7,9,9,9,12,512],rfl,SqL.of e1,by decide,by decide,fun p2 h2=>?_⟩
  generalize eH2:upd H1 p2 _=H2
  obtain⟨g2,e2⟩:=aH eH2 h2
  have hps:∀ q∈([7,9,9,9,12,512]:List Int),0 < q:=by decide
  obtain⟨d0,k0,b0⟩:=bL (c:=jW c) (i:=0) hps rfl
  obtain⟨d1,k1,b1⟩:=bL (c:=jW c) (i:=1) hps rfl
  obtain⟨d2,k2,b2⟩:=bL (c:=jW c) (i:=2) hps rfl
  obtain⟨d3,k3,b3⟩:=bL (c:=jW c) (i:=3) hps rfl
  obtain⟨d4,k4,b4⟩:=bL (c:=jW c) (i:=4) hps rfl
  obtain⟨d5,k5,b5⟩:=bL (c:=jW c) (i:=5) hps rfl
  have a0:=aU (dU k0)
  have a4:=aU (dU k4)
  have a5:=aU (dU k5)
  have kk:∀ k:Nat,k < 3->∃ d,(uw (jW c) [7,9,9,9,12,512])[1+k]? = some d:=fun k hk=>by
   match k,hk with
   | 0,_=>exact⟨_,k1⟩
   | 1,_=>exact⟨_,k2⟩
   | 2,_=>exact⟨_,k3⟩
  change _=some (HO.lst ((uw (jW c) [7,9,9,9,12,512]).map V.int)) at e2
  generalize uw (jW c) [7,9,9,9,12,512]=ds at *
  have gH:aM H H2:=g1.trans g2
  have u1:0<=d0 % 3:=Ri _ (by lia)
  have u2:d0 % 3 < 3:=QL _ (by lia)
  refine⟨_,rfl,p2,_,_,_,rfl,rfl,SqL.of e2,a0,_,_,rfl,rfl,(by show (0:Int) < 3; decide),_,_,rfl,rfl,_,rfl,by lia,by lia,fun D hD=>dm (lo:=0) (n:=(1+d0 % 3).toNat)
   (fun i zs σ' H3=>(∃ u,σ'=[u,some (.int (mo:Int)),some (.ref p2)])/\aM H2 H3/\H3 D=some (.lst zs)/\∃ ns:List Int,zs=ns.map V.int/\ns.length=i/\∀ x∈ns,1<=x/\x<=(mo:Int))
   ⟨⟨_,rfl⟩,au hD _,aj,[],rfl,rfl,by simp⟩ (fun i zs σ' H3 _ h=>h.2.2.1) ?_ ?_⟩
  ·rintro i zs σ' H3 hi ⟨⟨u,rfl⟩,s3,eD,ns,e3,ln,hb⟩
   obtain⟨dk,hk⟩:=kk i (by lia)
   have ak:atI (ds.map V.int) (1+(0+(i:Int)))=some (.int dk):=by
    rw[show (1:Int)+(0+(i:Int))=((1+i:Nat):Int) by lia]
    exact aU (dU hk)
   have v1:0<=dk % (mo:Int):=Ri _ (by lia)
   have v2:dk % (mo:Int) < (mo:Int):=QL _ (by lia)
   refine gT ?_
   refine⟨_,rfl,_,rfl,_,_,rfl,rfl,p2,_,_,_,rfl,rfl,SqL.of (s3 _ _ e2),ak,_,rfl,_,_,rfl,rfl,(by show (0:Int) < (mo:Int); lia),_,_,rfl,rfl,eD,?_,⟨_,rfl⟩,aF s3 hD _,aj,ns++[1+dk % (mo:Int)],?_,?_,?_⟩
   ·rw[e3,Pq]
    exact aD (by lia)
   ·rw[e3,PJ]
    rfl
   ·rw[Qf,ln]
    rfl
   ·intro x hx
    rcases List.mem_append.mp hx with h | h
    ·exact hb x h
    ·rw[List.mem_singleton.mp h]
     lia
  ·rintro zs σ' H3 ⟨_,s3,eD,ns,e3,ln,hb⟩
   have ln3:1<=ns.length/\ns.length<=3:=by lia
   have dl:(ddI ns).length<=ns.length:=by
    have:=CK ns []
    rw[BP]
    simpa using this
   refine⟨D,ns,rfl,SqL.of (by rw[eD,e3]),by lia,by lia,fun ms pm so l hl=>?_⟩
   have okm:okS ms:=Lr pm so (fun z=>by rw[z] at ln3; simp at ln3) (by lia) fun x hx=>⟨(hb x hx).1,by have:=(hb x hx).2; lia⟩
   have okM:∀ x∈ms,x<=(mo:Int):=fun x hx=>(hb x (KJ pm hx)).2
   generalize eH4:upd H3 l _=H4
   obtain⟨g4,e4⟩:=aH eH4 hl
   have s4:aM H2 H4:=s3.trans g4
   refine gN ?_
   dsimp only
   show Dt (El _ _ _) _ _ _ _
   refine jc (fun σ H5=>∃ (l:Addr) (ms:List Int),σ=[some (.int c),some (.int (n:Int)),some (.int (one:Int)),some (.int deep),some (.int (mo:Int)),some (.ref p2),some (.ref l),none,none,none,none]/\aM H2 H5/\H5 l=some (.lst (ms.map V.int))/\okS ms/\∀ x∈ms,x<=(mo:Int)) ?rest (fun _ R=>?_)
   case rest =>
    clear e4 hl so pm okm okM eH4 g4 s4 H4 l ms
    rintro σ H5 ⟨l,ms,rfl,s5,e5,okm,okM⟩
    have l9:=okm.2.1
    have e2':=s5 _ _ e2
    have sH5:aM H H5:=gH.trans s5
    show Dt (El _ _ _) _ _ _ _
    refine jc (fun σ H6=>σ=[some (.int c),some (.int (n:Int)),some (.int (one:Int)),some (.int deep),some (.int (mo:Int)),some (.ref p2),some (.ref l),none,none,none,none]/\H5=H6) ?rest2 (fun _ R=>?_)
    case rest2 =>
     rintro σ H6 ⟨rfl,rfl⟩
     show Dt (El _ _ _) _ _ _ _
     refine jc (fun σ H6=>σ=[some (.int c),some (.int (n:Int)),some (.int (one:Int)),some (.int deep),some (.int (mo:Int)),some (.ref p2),some (.ref l),none,none,none,none]/\H5=H6) ?rest3 (fun _ R=>?_)
     case rest3 =>
      rintro σ H6 ⟨rfl,rfl⟩
      refine⟨small (Qw _),fun r hr0=>?_⟩
      generalize eH6:upd H5 r _=H6
      obtain⟨g6,e6⟩:=aH eH6 hr0
      refine⟨_,rfl,l,_,rfl,g6 _ _ e5,Fe (K:=K) (a:=l) (xs:=ms.map V.int) (fun i σ H7=>(∃ u v,σ=[some (.int c),some (.int (n:Int)),some (.int (one:Int)),some (.int deep),some (.int (mo:Int)),some (.ref p2),some (.ref l),none,some (.ref r),u,v])/\aM H5 H7 ∧
       ∃ (vs:List V) (p:Pl),H7 r=some (.lst vs)/\dF n H7 vs p/\p.map (·.1)=ms.take i/\∀ x∈p,x.2.dep<=4) ⟨⟨_,_,rfl⟩,g6,[],[],e6,.nil,rfl,by simp⟩ (fun i σ H7 _ h=>SqL.of (h.2.1 _ _ e5)) ?_ ?_⟩
      ·rintro i x pp σ H7 hx hpp ⟨⟨u,v,rfl⟩,s7,vs,p,er,rp,ep,hd⟩
       obtain⟨st,hst,rfl⟩:=int_at hx
       have hi:i < ms.length:=(List.getElem?_eq_some_iff.mp hst).1
       generalize eH8:upd H7 pp _=H8
       obtain⟨g8,e8⟩:=aH eH8 hpp
       refine⟨pp,_,rfl,SqT.of e8,rfl,_,_,rfl,_,_,rfl,rfl,?_⟩
       refine⟨_,rfl,.inl ⟨rfl,_,SqL.of (g8 _ _ er)⟩,_,rfl,_,rfl,_,rfl,c,i,rfl,by lia,_,rfl,_,rfl,_,rfl,_,rfl,Ir c i,n,one,deep,mo,rfl,n1,n12,hone,de1,de3,m1,m9,fun v' t H9 s9 rt td=>?_⟩
       refine⟨small (by show 2<=1000; decide),fun pa ha=>?_⟩
       generalize eHa:upd H9 pa _=Ha
       obtain⟨ga,ea⟩:=aH eHa ha
       have s8a:aM H7 Ha:=g8.trans (s9.trans ga)
       have lv:=rp.length
       have lp:p.length<=ms.length:=by
        have:=congrArg Vv ep
        rw[Pq,Qh] at this
        lia
       have tk:=bR (zs':=vs++[.ref pa]) (s8a _ _ er)
       refine⟨r,_,_,rfl,rfl,s8a _ _ er,aD (by lia),⟨_,_,rfl⟩,aF (s7.trans s8a) hr0 _,vs++[.ref pa],p++[(st,t)],aj,?_,?_,?_⟩
       ·exact dF.snoc (tk _ _ ea) ((rt.mono ga).bj tk) ((rp.bj fun a xs q=>s8a a _ q).bj tk)
       ·rw[PJ,ep,Qz,hst]
        rfl
       ·intro x hx
        rcases List.mem_append.mp hx with h | h
        ·exact hd x h
        ·rw[List.mem_singleton.mp h]
         show t.dep<=4
         lia
      ·rintro σ H7 ⟨⟨u,v,rfl⟩,s7,vs,p,er,rp,ep,hd⟩
       rw[Pq,Qg] at ep
       refine⟨_,rfl,r,_,rfl,.inl ⟨SqL.of er,fun pa ha=>?_⟩⟩
       have sn:=au ha (.tup vs)
       exact q pa p _ (sH5.trans (s7.trans sn)) ⟨zW okm ep hd,vs,aj,rp.bj fun a xs q=>sn a _ q⟩ fun x hx=>okM _ (ep▸VH hx)
     ·refine qN (decide (V.int d0=V.int 5)) (decide (1 < (n:Int))) (fun H6=>H5=H6) (fun Q' hQ=>?_) (fun H6 e Q' hQ=>?_) (fun H6 e c1 c2=>?_) (fun H6 e _=>R _ _ ⟨rfl,e⟩)
      ·exact⟨_,rfl,p2,_,_,_,rfl,rfl,SqL.of e2',a0,rfl,_,rfl,hQ _ rfl⟩
      ·subst e
       exact⟨_,rfl,_,_,rfl,rfl,_,rfl,hQ⟩
      ·subst e
       have c2:1 < (n:Int):=of_decide_eq_true c2
       have w1:0<=((one:Int)+1+d4 % ((n:Int) - 1)) % (n:Int):=Ri _ (by lia)
       have w2:((one:Int)+1+d4 % ((n:Int) - 1)) % (n:Int) < (n:Int):=QL _ (by lia)
       obtain⟨j,hj⟩:=TV w1
       refine⟨_,rfl,_,_,rfl,rfl,_,rfl,p2,_,_,_,rfl,rfl,SqL.of e2',a4,_,rfl,_,_,rfl,rfl,_,_,rfl,rfl,(by show (0:Int) < (n:Int) - 1; lia),_,_,rfl,rfl,_,rfl,_,_,rfl,rfl,(by show (0:Int) < (n:Int); lia),?_⟩
       refine gN ?_
       have es:(fun i j:Int=>V.int (i % j)) ((one:Int)+1+d4 % ((n:Int) - 1)) (n:Int)=V.int (j:Int):=by
        show V.int (((one:Int)+1+d4 % ((n:Int) - 1)) % (n:Int))=_
        rw[hj]
       refine⟨_,rfl,l,rfl,⟨_,SqL.of e5⟩,fun D hD=>cH (K:=K) (a:=l) (xs:=ms.map V.int) (fun i zs σ' H7=>(∃ u,σ'=[u,some (.int (j:Int))])/\aM H5 H7/\H7 D=some (.lst zs) ∧
        dF n H7 zs ((ms.take i).map fun st=>(st,Tm.gives j (if st - 1 > 1 then st - 1 else 1)))) ⟨⟨none,?_⟩,au hD _,aj,.nil⟩ (fun i zs σ' H7 _ h=>⟨SqL.of (h.2.1 _ _ e5),h.2.2.1⟩) ?_ ?_⟩
       ·rw[← es]
        rfl
       ·rintro i zs x σ' H7 hx ⟨⟨u,rfl⟩,s7,er,rp⟩
        obtain⟨st,hst,rfl⟩:=int_at hx
        have hb:=okm.2.2.2 st (Qu hst)
        have lv:=rp.length
        rw[Pq,Qh] at lv
        refine gT ?_
        refine⟨_,rfl,_,rfl,_,rfl,_,_,rfl,rfl,_,_,rfl,small (by show 3<=1000; decide),fun pa ha=>?_⟩
        generalize eHa:upd H7 pa _=Ha
        obtain⟨ga,ea⟩:=aH eHa ha
        refine⟨small (by show 2<=1000; decide),fun pb hb'=>?_⟩
        generalize eHb:upd Ha pb _=Hb
        obtain⟨gb,eb⟩:=aH eHb hb'
        have s7b:aM H7 Hb:=ga.trans gb
        have tk:=bR (zs':=zs++[.ref pb]) (s7b _ _ er)
        refine⟨s7b _ _ er,aD (by lia),⟨_,rfl⟩,aF (s7.trans s7b) hD _,aj,?_⟩
        rw[take_snoc (fun st=>(st,Tm.gives j (if st - 1 > 1 then st - 1 else 1))) hst]
        exact dF.snoc (tk _ _ eb) (.gives (tk _ _ (gb _ _ ea)) (by lia) (by split <;> lia) (by split <;> lia)) ((rp.bj fun a xs q=>s7b a _ q).bj tk)
       ·rintro zs σ' H7 ⟨_,s7,er,rp⟩
        rw[Pq,Qg] at rp
        refine⟨D,_,rfl,.inl ⟨SqL.of er,fun pa ha=>?_⟩⟩
        have sn:=au ha (.tup zs)
        refine q pa _ _ (sH5.trans (s7.trans sn)) ⟨zW okm ?_ ?_,zs,aj,rp.bj fun a xs q=>sn a _ q⟩ fun x hx=>by obtain⟨st,hs,rfl⟩:=List.mem_map.mp hx; exact okM st hs
        ·rw[RL]
         exact List.map_id' ms
        ·intro x hx
         obtain⟨st,_,rfl⟩:=List.mem_map.mp hx
         show (1:Nat)<=4
         decide
    ·refine qN (decide (V.int d0=V.int 6)) (decide (1 < (n:Int))) (fun H6=>H5=H6) (fun Q' hQ=>?_) (fun H6 e Q' hQ=>?_) (fun H6 e c1 c2=>?_) (fun H6 e _=>R _ _ ⟨rfl,e⟩)
     ·exact⟨_,rfl,p2,_,_,_,rfl,rfl,SqL.of e2',a0,rfl,_,rfl,hQ _ rfl⟩
     ·subst e
      exact⟨_,rfl,_,_,rfl,rfl,_,rfl,hQ⟩
     ·subst e
      have w1:0<=((one:Int)+1) % (n:Int):=Ri _ (by lia)
      have w2:((one:Int)+1) % (n:Int) < (n:Int):=QL _ (by lia)
      obtain⟨j,hj⟩:=TV w1
      refine⟨_,rfl,l,rfl,⟨_,SqL.of e5⟩,fun D hD=>cH (K:=K) (a:=l) (xs:=ms.map V.int) (fun i zs σ' H7=>(∃ u,σ'=[u,some (.int (n:Int)),some (.int (one:Int))])/\aM H5 H7/\H7 D=some (.lst zs) ∧
       dF n H7 zs ((ms.take i).map fun st=>(st,Tm.gives j st))) ⟨⟨_,rfl⟩,au hD _,aj,.nil⟩ (fun i zs σ' H7 _ h=>⟨SqL.of (h.2.1 _ _ e5),h.2.2.1⟩) ?_ ?_⟩
      ·rintro i zs x σ' H7 hx ⟨⟨u,rfl⟩,s7,er,rp⟩
       obtain⟨st,hst,rfl⟩:=int_at hx
       have hb:=okm.2.2.2 st (Qu hst)
       have lv:=rp.length
       rw[Pq,Qh] at lv
       refine gT ?_
       refine⟨_,rfl,_,rfl,_,_,rfl,rfl,_,rfl,_,_,rfl,rfl,(by show (0:Int) < (n:Int); lia),_,rfl,small (by show 3<=1000; decide),fun pa ha=>?_⟩
       generalize eHa:upd H7 pa _=Ha
       obtain⟨ga,ea⟩:=aH eHa ha
       have ea:Ha pa=some (.tup [.str "gives",vN j,.int st]):=by
        rw[ea]
        show some (HO.tup [V.str "gives",V.int (((one:Int)+1) % (n:Int)),V.int st])=some (HO.tup [V.str "gives",V.int (j:Int),V.int st])
        rw[hj]
       refine⟨small (by show 2<=1000; decide),fun pb hb'=>?_⟩
       generalize eHb:upd Ha pb _=Hb
       obtain⟨gb,eb⟩:=aH eHb hb'
       have s7b:aM H7 Hb:=ga.trans gb
       have tk:=bR (zs':=zs++[.ref pb]) (s7b _ _ er)
       refine⟨s7b _ _ er,aD (by lia),⟨_,rfl⟩,aF (s7.trans s7b) hD _,aj,?_⟩
       rw[take_snoc (fun st=>(st,Tm.gives j st)) hst]
       exact dF.snoc (tk _ _ eb) (.gives (tk _ _ (gb _ _ ea)) (by lia) (by lia) (by lia)) ((rp.bj fun a xs q=>s7b a _ q).bj tk)
      ·rintro zs σ' H7 ⟨_,s7,er,rp⟩
       rw[Pq,Qg] at rp
       refine⟨D,_,rfl,.inl ⟨SqL.of er,fun pa ha=>?_⟩⟩
       have sn:=au ha (.tup zs)
       refine q pa _ _ (sH5.trans (s7.trans sn)) ⟨zW okm ?_ ?_,zs,aj,rp.bj fun a xs q=>sn a _ q⟩ fun x hx=>by obtain⟨st,hs,rfl⟩:=List.mem_map.mp hx; exact okM st hs
       ·rw[RL]
        exact List.map_id' ms
       ·intro x hx
        obtain⟨st,_,rfl⟩:=List.mem_map.mp hx
        show (1:Nat)<=4
        decide
   ·refine⟨_,rfl,p2,_,_,_,rfl,rfl,SqL.of (s4 _ _ e2),a0,rfl,_,rfl,?_⟩
    refine yP (fun _=>?_) (fun _=>R _ _ ⟨l,ms,rfl,s4,e4,okm,okM⟩)
    refine⟨_,rfl,p2,_,_,_,rfl,rfl,SqL.of (s4 _ _ e2),a5,_,rfl,d5,mo,rfl,by lia,fun cs r3 H5 hc hp hl5 s5 f5 e5=>?_⟩
    refine⟨r3,rfl,⟨_,SqT.of e5⟩,fun D5 hD5=>fC (K:=K) (a:=r3) (xs:=cs.map vN) (fun i zs σ' H6=>(∃ u,σ'=[u])/\zs=((cs.take i).map fun j:Nat=>(1:Int)+(j:Int)).map V.int/\aM H5 H6/\H6 D5=some (.lst zs))
     ⟨⟨_,rfl⟩,rfl,au hD5 _,aj⟩ (fun i zs σ' H6 _ h=>⟨SqT.of (h.2.2.1 _ _ e5),h.2.2.2⟩) ?_ ?_⟩
    ·rintro i zs x σ' H6 hx ⟨⟨u,rfl⟩,e6,s6,eD6⟩
     obtain⟨j,hj,rfl⟩:=rT hx
     refine gT ?_
     refine⟨_,rfl,_,_,rfl,rfl,eD6,?_,⟨_,rfl⟩,?_,aF s6 hD5 _,aj⟩
     ·rw[e6,Pq,Pq,Qh]
      exact aD (by lia)
     ·rw[e6,take_snoc (fun j:Nat=>(1:Int)+(j:Int)) hj,PJ]
      rfl
    ·rintro zs σ' H6 ⟨_,e6,s6,eD6⟩
     rw[Pq,Qg] at e6
     rw[e6] at eD6
     have s46:aM H2 H6:=s4.trans (s5.trans s6)
     refine⟨_,rfl,small (by show 0<=1000; decide),fun p7 h7=>?_⟩
     have g7:aM H6 (upd H6 p7 (.lst [])):=au h7 _
     refine⟨D5,p7,_,rfl,rfl,SqL.of (g7 _ _ eD6),SqL.of aj,_,rfl,?_⟩
     refine yP (fun ce=>?_) (fun ce=>?_)
     ·refine⟨_,rfl,small (by show 1<=1000; decide),fun p8 h8=>?_⟩
      refine R _ _ ⟨p8,[(mo:Int)],rfl,s46.trans (g7.trans (au h8 _)),aj,⟨by simp,by show 1<=9; decide,by simp,?_⟩,fun x hx=>by rw[List.mem_singleton.mp hx]; exact Rx _⟩
      intro x hx
      rw[List.mem_singleton.mp hx]
      lia
     ·refine R _ _ ⟨D5,cs.map fun j:Nat=>(1:Int)+(j:Int),rfl,s46.trans g7,g7 _ _ eD6,⟨?_,?_,?_,?_⟩,fun x hx=>by obtain⟨j,hj,rfl⟩:=List.mem_map.mp hx; have:=hc j hj; lia⟩
      ·intro z
       apply ce
       rw[z]
       rfl
      ·rw[Pq]
       lia
      ·rw[RK]
       exact hp.imp fun h=>by lia
      ·intro x hx
       obtain⟨j,hj,rfl⟩:=List.mem_map.mp hx
       have:=hc j hj
       lia
abbrev jR:Stmt:=top 36
theorem fH:aX ["_law_script","_law_start","_law_n","_law_most","_law_book_here","_law_one","_law_cell_here","_law_many"] ["_law_script","_law_start","_law_n","_law_most"] (aJ jR):=⟨rfl,rfl,rfl,by decide+kernel,rfl,by decide+kernel,by decide+kernel⟩
def okM (mo:Nat) (bk:List (List Pl)):Prop:=∀ ps∈bk,∀ p∈ps,∀ x∈p,x.1<=(mo:Int)
inductive zq (K:Qp) (vs:List V) (H:Hp) (Q:VK):Prop where
 | mk (a:Addr) (ss:List Int) (st n mo:Nat) (z0:vs=[.ref a,.int (st:Int),.int (n:Int),.int (mo:Int)]) (z1:SqL K H a (ss.map V.int)) (z2:st<=100) (z3:1<=n) (z4:n<=12) (z5:1<=mo) (z6:mo<=9) (z7:∀ (b:Addr) (bk:List (List Pl)) (H':Hp),aM H H'->nZ n H' b bk->bk.length=n->okM mo bk->Q (.ref b) H'):zq K vs H Q
def HQ (K:Qp):Sp:=fun vs H Q _=>zq K vs H Q
theorem uU (F:Fun K "_law_book" "_law_book" jR f fd) (B:Bt mg)
  (D_law_cell:Df P w K mg base "_law_cell" 1 ["_law_script","_law_k"] (wz K)) (D_law_draws:Df P w K mg base "_law_draws" 1 ["_law_cell_here","_law_parts"] (jb K)) (D_law_under:Df P w K mg base "_law_under" 1 ["_law_cell_here","_law_k"] qK)
  (D_law_pledge:Df P w K mg base "_law_pledge" 6 ["_law_cell_here","_law_n","_law_one","_law_deep","_law_most"] wO):eX P w K mg base CX0 7 f fd ["_law_script","_law_start","_law_n","_law_most"] (HQ K):=by
 refine F.ok fH (fun vs H Q E h=>?_) (fun cdv A outer s H vs Q E hr h=>?_)
 ·obtain⟨a,ss,st,n,mo,rfl,_⟩:=h
  rfl
 ·obtain⟨a,ss,st,n,mo,rfl,hS,hst,n1,n12,m1,m9,q⟩:=h
  refine⟨_,(aA (aR (i:=4) fH.nd rfl (Qi rfl) (bK aq))
 (aA (gK Ro rfl (cG rfl B.range_ (aa (pv 2) aq)) (aG (i:=5) fH.nd rfl (Wg rfl)) (aA (aR (i:=6) fH.nd rfl (Wg rfl) (aP bT (aY D_law_cell hr (aa (pv 0) (aa (aP bT (pv 1) (pv 5)) aq))) (aP gJ aB (pv 5))))
 (aA (aR (i:=7) fH.nd rfl (Qi rfl) (bh (r:=fX K) aQ (bK (cL aB (cL aB (cL aB (cL aB (cL aB (cL aB (cL aB aq)))))))) (bh (r:=fX K) aQ (aY D_law_draws hr (aa (aP bT (pv 6) aB) (aa (bK (aa aB aq)) aq))) aB (fun _ _=>rfl)) (fun _ _=>rfl)))
 (aC (gk (jX QB Rm Rk cM (pv 4) (aa (bA (L:=["_law_k"]) (F:=["_law_n","_law_one","_law_most","_law_cell_here"]) (cap:=[2,5,3,6]) rfl (bu rfl rfl (by kernel_rfl)) (cG rfl B.range_ (aa (pv 7) aq)) (fun _ _ _ _ _=>(aG (i:=0) (aO (by decide+kernel)) rfl (Qi rfl))) (fun _ _ _ _ _=>bC) (fun _ _ _ _ _=>(aY D_law_pledge hr (aa (aY D_law_under hr (aa (pv 4) (aa (aP gJ aB (pv 0)) aq))) (aa (pv 1) (aa (pv 2) (aa aB (aa (pv 3) aq)))))))) aq)))))))
 (aC (aL (pv 4))))),?_⟩
  refine⟨small (Qw _),fun r hr0=>?_⟩
  generalize eH1:upd H r _=H1
  obtain⟨g1,e1⟩:=aH eH1 hr0
  have en:((n:Int)).toNat=n:=Qx n
  refine⟨_,rfl,_,rfl,by lia,by lia,iw (lo:=0) (n:=((n:Int)).toNat) (fun i σ H2=>(∃ u v x,σ=[some (.ref a),some (.int (st:Int)),some (.int (n:Int)),some (.int (mo:Int)),some (.ref r),u,v,x])/\aM H H2/\∃ (us:List V) (bk:List (List Pl)),H2 r=some (.lst us)/\cB n H2 us bk/\us.length=i/\(∀ u∈us,u≠.ref r)/\okM mo bk)
   ⟨⟨_,_,_,rfl⟩,g1,[],[],e1,.nil,rfl,by simp,fun _ z=>(by cases z)⟩ ?_ ?_⟩
  ·rintro i σ H2 hi ⟨⟨u,v,x,rfl⟩,sm,us,bk,er,rb,lu,hur,few⟩
   have hi12:i < n:=by lia
   have e1':(st:Int)+(0+(i:Int))=((st+i:Nat):Int):=by lia
   refine⟨_,rfl,_,rfl,_,rfl,_,_,rfl,rfl,a,ss,st+i,?_,vP sm hS,_,rfl,_,_,rfl,rfl,.inl ⟨by decide,by decide⟩,_,_,rfl,rfl,?_⟩
   ·show[V.ref a,V.int ((st:Int)+(0+(i:Int)))]=_
    rw[e1']
   refine gN ?_
   dsimp only
   generalize (ss.getD (st+i) 0+31 * (0+(i:Int)))=c
   refine⟨small (by show 7<=1000; decide),fun p3 h3=>?_⟩
   generalize eH3:upd H2 p3 _=H3
   obtain⟨g3,e3⟩:=aH eH3 h3
   refine⟨_,rfl,_,_,rfl,rfl,small (by show 1<=1000; decide),fun p4 h4=>?_⟩
   generalize eH4:upd H3 p4 _=H4
   obtain⟨g4,e4⟩:=aH eH4 h4
   refine⟨c+5,p4,[7],rfl,SqL.of e4,by decide,by decide,fun p5 h5=>?_⟩
   generalize eH5:upd H4 p5 _=H5
   obtain⟨g5,e5⟩:=aH eH5 h5
   obtain⟨d0,k0,b0⟩:=bL (c:=jW (c+5)) (i:=0) (ps:=[7]) (by decide) rfl
   have a0:=aU (dU k0)
   obtain⟨many,hmany,hm2⟩:∃ many:Nat,atI ([1,1,2,1,0,1,2].map V.int) d0=some (.int (many:Int))/\many<=2:=by
    rcases (show d0=0∨d0=1∨d0=2∨d0=3∨d0=4∨d0=5∨d0=6 by lia) with z | z | z | z | z | z | z
    ·exact⟨1,by rw[z]; rfl,by decide⟩
    ·exact⟨1,by rw[z]; rfl,by decide⟩
    ·exact⟨2,by rw[z]; rfl,by decide⟩
    ·exact⟨1,by rw[z]; rfl,by decide⟩
    ·exact⟨0,by rw[z]; rfl,by decide⟩
    ·exact⟨1,by rw[z]; rfl,by decide⟩
    ·exact⟨2,by rw[z]; rfl,by decide⟩
   refine⟨p5,_,_,_,rfl,rfl,SqL.of e5,a0,p3,_,_,_,rfl,rfl,SqL.of (g5 _ _ (g4 _ _ e3)),hmany,?_⟩
   have s5:aM H2 H5:=g3.trans (g4.trans g5)
   have emn:((many:Int)).toNat=many:=Qx many
   refine⟨_,rfl,.inl ⟨rfl,_,SqL.of (s5 _ _ er)⟩,?_⟩
   refine⟨_,rfl,_,rfl,by lia,by lia,fun D hD=>dm (lo:=0) (n:=((many:Int)).toNat) (fun j zs σ' H6=>(∃ u,σ'=[u,some (.int (n:Int)),some (.int (0+(i:Int))),some (.int (mo:Int)),some (.int c)])/\aM H5 H6/\H6 D=some (.lst zs)/\∃ (as:List Addr) (ps:List Pl),zs=as.map V.ref/\as.length=j/\dH n H6 as ps/\(∀ p∈ps,∀ x∈p,x.1<=(mo:Int)))
    ⟨⟨_,rfl⟩,au hD _,aj,[],[],rfl,rfl,.nil,fun _ z=>(by cases z)⟩ (fun j zs σ' H6 _ h=>h.2.2.1) ?_ ?_⟩
   ·rintro j zs σ' H6 hj ⟨⟨u,rfl⟩,s6,eD,as,ps,ez,la,rp,pm⟩
    have e7:(7:Int) * (0+(j:Int))=((7 * j:Nat):Int):=by lia
    refine gT ?_
    refine⟨_,rfl,_,rfl,_,_,rfl,rfl,.inl ⟨by decide,by decide⟩,c,7 * j,?_,by lia,_,rfl,_,rfl,_,rfl,Ir c (7 * j),n,i,3,mo,?_,n1,n12,hi12,by decide,by decide,m1,m9,fun pa p H7 s7 rpl rpm=>?_⟩
    ·show[V.int c,V.int (7 * (0+(j:Int)))]=_
     rw[e7]
    ·show[V.int (Ir c (7 * j)),V.int (n:Int),V.int (0+(i:Int)),V.int 3,V.int (mo:Int)]=_
     rw[Tp]
    ·have tk:=bR (zs':=zs++[.ref pa]) (s7 _ _ eD)
     refine⟨s7 _ _ eD,?_,⟨_,rfl⟩,aF (s6.trans s7) hD _,aj,as++[pa],ps++[p],?_,?_,?_,fun p' hp=>?_⟩
     ·rw[ez,Pq]
      exact aD (by lia)
     ·rw[ez,PJ]
      rfl
     ·rw[Qf,la]
      rfl
     ·exact dH.snoc (rpl.bj tk) ((rp.bj fun a xs q=>s7 a _ q).bj tk)
     ·rcases List.mem_append.mp hp with h | h
      ·exact pm p' h
      ·rw[List.mem_singleton.mp h]
       exact rpm
   ·rintro zs σ' H6 ⟨_,s6,eD,as,ps,ez,la,rp,pm⟩
    rw[emn] at la
    rw[ez] at eD
    have s26:aM H2 H6:=s5.trans s6
    have er6:=s26 _ _ er
    have hDr:D≠r:=fun z=>by
     rw[z] at hD
     have:=s5 _ _ er
     rw[this] at hD
     cases hD
    refine⟨r,_,_,rfl,rfl,er6,aD (by lia),⟨_,_,_,rfl⟩,aF (sm.trans s26) hr0 _,us++[.ref D],bk++[ps],aj,?_,?_,?_,?_⟩
    ·have keepL:∀ {vs:List V} {bs:List (List Pl)},(∀ u∈vs,u≠.ref r)->cB n H6 vs bs->cB n (upd H6 r (.lst (us++[.ref D]))) vs bs:=by
      intro vs bs hne hb
      induction hb with
      | nil=>exact .nil
      | cons h l p _ ih =>
       refine .cons ?_ l (p.bj (bR er6)) (ih fun u hu=>hne u (Qc _ hu))
       rw[bx (fun z=>hne _ PN (by rw[z]))]
       exact h
     have b6:=cB.snoc eD (by lia) rp (rb.mono s26)
     refine keepL (fun u hu=>?_) b6
     rcases List.mem_append.mp hu with h | h
     ·exact hur u h
     ·rw[List.mem_singleton.mp h]
      exact fun z=>hDr (by cases z; rfl)
    ·rw[Qf,lu]
     rfl
    ·intro u hu
     rcases List.mem_append.mp hu with h | h
     ·exact hur u h
     ·rw[List.mem_singleton.mp h]
      exact fun z=>hDr (by cases z; rfl)
    ·intro qs hq
     rcases List.mem_append.mp hq with h | h
     ·exact few qs h
     ·rw[List.mem_singleton.mp h]
      exact pm
  ·rintro σ H2 ⟨⟨u,v,x,rfl⟩,sm,us,bk,er,rb,lu,hur,few⟩
   rw[en] at lu
   have lb:=rb.length
   exact⟨_,rfl,q r bk H2 sm ⟨us,er,rb,by lia⟩ (by lia) few⟩
theorem Nt {K:Qp} {m z:Int} {n i:Nat} {σ:St} {H:Hp} {Q:V->Hp->Prop} (hz:z=(n:Int)) (n1:1<=n) (n2:n<=1000) (hσ:σ[i]? = some (some (.int z))) (hQ:∀ r H',aM H H'->H' r=some (.tup ((Qd n m).map V.int))->Q (.ref r) H') :
  tOp (JG K) (Oh (J2 (tC (.int m)) LQ)) (Nf i) σ H Q:=by
 refine⟨small (by show 1<=1000; decide),fun pa ha=>?_⟩
 generalize eHa:upd H pa _=Ha
 obtain⟨ga,ea⟩:=aH eHa ha
 have hN:z.toNat=n:=by lia
 refine⟨_,hσ,pa,_,_,rfl,rfl,SqT.of ea,by simp,by lia,by lia,?_,fun h1=>?_,fun _ pb hb=>?_⟩
 ·show 1 * z.toNat<=sizeLine
  exact small (by lia)
 ·refine hQ pa Ha ga ?_
  rw[ea,show n=1 by lia]
  rfl
 ·refine hQ pb _ (ga.trans (au hb _)) ?_
  rw[aj,hN,qJ]
def Lb (n:Nat) (H:Hp) (b f:Addr) (bk:List (List Pl)) (fl:List Int):Prop:=1<=n/\n<=12/\nZ n H b bk/\bk.length=n/\H f=some (.tup (fl.map V.int))/\fl.length=n/\∀ x∈fl,0<=x/\x<=9
theorem J3 {c:Int} {n:Nat} {m:Int} (hm:0<=m):∀ x∈Mp c n m,0<=x/\x<=m:=fun x hx=>by
 obtain⟨i,hi,e⟩:=RP hx
 rw[jf] at hi
 obtain⟨v,hv,b1,b2⟩:=Eb (c:=c) hm hi
 rw[Px (by rw[jf]; exact hi),e] at hv
 cases hv
 exact⟨b1,b2⟩
abbrev jj:Stmt:=top 38
theorem du:aX ["_law_script","_law_drawn","_law_n","_law_most","_law_floor"] ["_law_script"] (aJ jj):=⟨rfl,rfl,rfl,by decide+kernel,rfl,by decide+kernel,by decide+kernel⟩
inductive xQ (K:Qp) (vs:List V) (H:Hp) (Q:VK):Prop where
 | mk (a:Addr) (ss:List Int) (z0:vs=[.ref a]) (z1:SqL K H a (ss.map V.int)) (z2:∀ (r:Addr) (n mo:Nat) (b f:Addr) (bk:List (List Pl)) (fl:List Int) (H':Hp),aM H H'->H' r=some (.tup [.int (n:Int),.int (mo:Int),.ref b,.ref f])->1<=mo->mo<=9->((mo+1) ^ n<=256/\n<=6)->(∀ x∈fl,x<=(mo:Int))->Lb n H' b f bk fl->okM mo bk->Q (.ref r) H'):xQ K vs H Q
def Ca (K:Qp):Sp:=fun vs H Q _=>xQ K vs H Q
theorem sW (F:Fun K "_law_scene" "_law_scene" jj f fd) (B:Bt mg)
  (D_law_cell:Df P w K mg base "_law_cell" 1 ["_law_script","_law_k"] (wz K)) (D_law_draws:Df P w K mg base "_law_draws" 1 ["_law_cell_here","_law_parts"] (jb K)) (D_law_giving:Df P w K mg base "_law_giving" 2 ["_law_cell_here","_law_n","_law_most"] xf)
  (D_law_book:Df P w K mg base "_law_book" 7 ["_law_script","_law_start","_law_n","_law_most"] (HQ K)):eX P w K mg base CX0 8 f fd ["_law_script"] (Ca K):=by
 refine F.ok du (fun vs H Q E h=>?_) (fun cdv A outer s H vs Q E hr h=>?_)
 ·obtain⟨a,ss,rfl,_⟩:=h
  rfl
 ·obtain⟨a,ss,rfl,hS,q⟩:=h
  refine' ⟨_,?hp,?hz⟩
  case hp =>
   refine' aA ?s0 ?r0
   case s0=>exact (aR (i:=1) du.nd rfl (Qi rfl) (aY D_law_draws hr (aa (aY D_law_cell hr (aa (pv 0) (aa aB aq))) (aa (bK (aa aB (aa aB (aa aB aq)))) aq))))
   case r0 =>
    refine' aA ?s1 ?r1
    case s1 =>
     refine' Gr ?e ?t ?hs ?hw
     case hs=>rfl
     case hw=>rfl
     case t=>exact (eE (K:=K) 2 rfl rfl (aZ (aG (i:=2) du.nd rfl (Qi rfl)) (aZ (aG (i:=3) du.nd rfl (Qi rfl)) dR)))
     case e =>
      refine' bh (r:=fX K) ?h1 ?l ?ix ?h2
      case h1=>exact aQ
      case h2=>exact fun _ _=>rfl
      case ix=>exact (bh (r:=fX K) aQ (pv 1) aB (fun _ _=>rfl))
      case l =>
       refine' bK ?l0
       case l0 =>
        refine' cL ?a0 ?l1 ?hh
        case hh=>intro x p z; cases z
        case a0=>exact (bQ (aa aB (aa aB aq)))
        case l1 =>
         refine' cL ?a1 ?l2 ?hh
         case hh=>intro x p z; cases z
         case a1=>exact (bQ (aa aB (aa aB aq)))
         case l2 =>
          refine' cL ?a2 ?l3 ?hh
          case hh=>intro x p z; cases z
          case a2=>exact (bQ (aa aB (aa aB aq)))
          case l3 =>
           refine' cL ?a3 ?l4 ?hh
           case hh=>intro x p z; cases z
           case a3=>exact (bQ (aa aB (aa aB aq)))
           case l4 =>
            refine' cL ?a4 ?l5 ?hh
            case hh=>intro x p z; cases z
            case a4=>exact (bQ (aa aB (aa aB aq)))
            case l5 =>
             refine' cL ?a5 ?l6 ?hh
             case hh=>intro x p z; cases z
             case a5=>exact (bQ (aa aB (aa aB aq)))
             case l6 =>
              refine' cL ?a6 ?l7 ?hh
              case hh=>intro x p z; cases z
              case a6=>exact (bQ (aa aB (aa aB aq)))
              case l7=>exact aq
    case r1 =>
     refine' aA ?s2 ?r2
     case s2=>exact (aR (i:=4) du.nd rfl (Qi rfl) (aY D_law_giving hr (aa (aY D_law_cell hr (aa (pv 0) (aa aB aq))) (aa (pv 2) (aa (pv 3) aq)))))
     case r2 =>
      refine' aA ?s3 ?r3
      case s3=>exact (cg (aV vH (bh (r:=fX K) aQ (pv 1) aB (fun _ _=>rfl)) aB (bf _)) (aC (aR (i:=4) du.nd rfl (Qi rfl) (aP (r:=JG K) Ij (bQ (aa aB aq)) (pv 2)))) aW)
      case r3 =>
       refine' aC ?s4
       case s4=>exact (aL (bQ (aa (pv 2) (aa (pv 3) (aa (aY D_law_book hr (aa (pv 0) (aa aB (aa (pv 2) (aa (pv 3) aq))))) (aa (pv 4) aq))))))
  refine⟨_,rfl,a,ss,0,rfl,hS,small (by show 3<=1000; decide),fun p2 h2=>?_⟩
  generalize eH2:upd H p2 _=H2
  obtain⟨g2,e2⟩:=aH eH2 h2
  refine⟨_,p2,[7,3,12],rfl,SqL.of e2,by decide,by decide,fun p3 h3=>?_⟩
  generalize eH3:upd H2 p3 _=H3
  obtain⟨g3,e3⟩:=aH eH3 h3
  have hps:∀ q∈([7,3,12]:List Int),0 < q:=by decide
  obtain⟨d0,k0,b0⟩:=bL (c:=jW (ss.getD 0 0)) (i:=0) hps rfl
  obtain⟨d1,k1,b1⟩:=bL (c:=jW (ss.getD 0 0)) (i:=1) hps rfl
  have a0:=aU (dU k0)
  have a1:=aU (dU k1)
  have s3:aM H H3:=g2.trans g3
  refine⟨small (by show 2<=1000; decide),fun t1 u1=>?_⟩
  generalize eT1:upd H3 t1 _=T1
  obtain⟨gt1,et1⟩:=aH eT1 u1
  refine⟨small (by show 2<=1000; decide),fun t2 u2=>?_⟩
  generalize eT2:upd T1 t2 _=T2
  obtain⟨gt2,et2⟩:=aH eT2 u2
  refine⟨small (by show 2<=1000; decide),fun t3 u3=>?_⟩
  generalize eT3:upd T2 t3 _=T3
  obtain⟨gt3,et3⟩:=aH eT3 u3
  refine⟨small (by show 2<=1000; decide),fun t4 u4=>?_⟩
  generalize eT4:upd T3 t4 _=T4
  obtain⟨gt4,et4⟩:=aH eT4 u4
  refine⟨small (by show 2<=1000; decide),fun t5 u5=>?_⟩
  generalize eT5:upd T4 t5 _=T5
  obtain⟨gt5,et5⟩:=aH eT5 u5
  refine⟨small (by show 2<=1000; decide),fun t6 u6=>?_⟩
  generalize eT6:upd T5 t6 _=T6
  obtain⟨gt6,et6⟩:=aH eT6 u6
  refine⟨small (by show 2<=1000; decide),fun t7 u7=>?_⟩
  generalize eT7:upd T6 t7 _=T7
  obtain⟨gt7,et7⟩:=aH eT7 u7
  refine⟨small (by show 7<=1000; decide),fun t8 u8=>?_⟩
  generalize eT8:upd T7 t8 _=T8
  obtain⟨gt8,et8⟩:=aH eT8 u8
  have w7:aM T7 T8:=gt8
  have w6:aM T6 T8:=gt7.trans w7
  have w5:aM T5 T8:=gt6.trans w6
  have w4:aM T4 T8:=gt5.trans w5
  have w3:aM T3 T8:=gt4.trans w4
  have w2:aM T2 T8:=gt3.trans w3
  have w1:aM T1 T8:=gt2.trans w2
  have w0:aM H3 T8:=gt1.trans w1
  obtain⟨tt,n,mo,htt,ett,n1,n12,m1,m9,hpow⟩:∃ (tt:Addr) (n mo:Nat),atI [V.ref t1,.ref t2,.ref t3,.ref t4,.ref t5,.ref t6,.ref t7] d0=some (.ref tt)/\T8 tt=some (.tup [.int (n:Int),.int (mo:Int)])/\1<=n/\n<=12/\1<=mo/\mo<=9/\(mo+1) ^ n<=256/\n<=6:=by
   rcases (show d0=0∨d0=1∨d0=2∨d0=3∨d0=4∨d0=5∨d0=6 by lia) with z | z | z | z | z | z | z
   ·exact⟨t1,3,3,by rw[z]; rfl,w1 _ _ et1,by decide,by decide,by decide,by decide,by decide,by decide⟩
   ·exact⟨t2,2,9,by rw[z]; rfl,w2 _ _ et2,by decide,by decide,by decide,by decide,by decide,by decide⟩
   ·exact⟨t3,4,3,by rw[z]; rfl,w3 _ _ et3,by decide,by decide,by decide,by decide,by decide,by decide⟩
   ·exact⟨t4,1,9,by rw[z]; rfl,w4 _ _ et4,by decide,by decide,by decide,by decide,by decide,by decide⟩
   ·exact⟨t5,3,2,by rw[z]; rfl,w5 _ _ et5,by decide,by decide,by decide,by decide,by decide,by decide⟩
   ·exact⟨t6,5,2,by rw[z]; rfl,w6 _ _ et6,by decide,by decide,by decide,by decide,by decide,by decide⟩
   ·exact⟨t7,6,1,by rw[z]; rfl,w7 _ _ et7,by decide,by decide,by decide,by decide,by decide,by decide⟩
  have s8:aM H T8:=s3.trans w0
  refine⟨_,rfl,p3,_,_,_,rfl,rfl,SqL.of (w0 _ _ e3),a0,t8,_,_,_,rfl,rfl,SqL.of et8,htt,tt,_,rfl,SqT.of ett,rfl,_,_,rfl,_,_,rfl,rfl,?_⟩
  refine⟨_,rfl,a,ss,1,rfl,vP s8 hS,_,rfl,_,rfl,ss.getD 1 0,n,(mo:Int),rfl,by lia,by lia,by lia,fun r4 H4 s4 _ e4=>?_⟩
  refine gN ?_
  dsimp only
  show Dt (El _ _ _) _ _ _ _
  have s4':aM H H4:=s8.trans s4
  refine jc (fun σ H5=>∃ (f:Addr) (fl:List Int),σ=[some (.ref a),some (.ref p3),some (.int (n:Int)),some (.int (mo:Int)),some (.ref f)]/\aM H H5/\H5 f=some (.tup (fl.map V.int))/\fl.length=n/\∀ x∈fl,0<=x/\x<=(mo:Int)) ?rest (fun _ R=>?_)
  case rest =>
   rintro σ H5 ⟨f,fl,rfl,s5,e5,lf,hf⟩
   refine⟨_,rfl,_,rfl,_,rfl,_,rfl,_,rfl,a,ss,2,n,mo,rfl,vP s5 hS,by decide,n1,n12,m1,m9,fun b bk H6 s6 rb lb few=>?_⟩
   refine⟨_,rfl,small (by show 4<=1000; decide),fun p7 h7=>?_⟩
   have sn:=au h7 (.tup [.int (n:Int),.int (mo:Int),.ref b,.ref f])
   exact q p7 n mo b f bk fl _ (s5.trans (s6.trans sn)) aj m1 m9 hpow (fun x hx=>(hf x hx).2) ⟨n1,n12,rb.mono sn,lb,sn _ _ (s6 _ _ e5),lf,fun x hx=>⟨(hf x hx).1,by have:=(hf x hx).2; lia⟩⟩ few
  ·refine⟨_,rfl,p3,_,_,_,rfl,rfl,SqL.of (s4 _ _ (w0 _ _ e3)),a1,_,_,rfl,rfl,_,rfl,?_⟩
   refine yP (fun _=>?_) (fun _=>R _ _ ⟨r4,_,rfl,s4',e4,jf _ _ _,J3 (by lia)⟩)
   refine Nt (z:=(n:Int)) (n:=n) rfl n1 (by lia) rfl fun ra Ha sa ea=>?_
   refine R _ _ ⟨ra,Qd n 0,rfl,s4'.trans sa,ea,Rf,fun x hx=>?_⟩
   rw[(List.mem_replicate.mp hx).2]
   lia
theorem oY:∀ {c:List Nat} {m n:Nat},c.Pairwise (· < ·)->(∀ i∈c,m<=i/\i < n)->c.length<=n - m
 | [],m,n,_,_=>Qw _
 | a::c,m,n,hp,h=>by
  rw[RX] at hp
  have h1:=h a PN
  have:=oY (c:=c) (m:=a+1) (n:=n) hp.2 fun i hi=>⟨hp.1 i hi,(h i (Qc _ hi)).2⟩
  rw[Qk]
  lia
def iN (c:List Nat):List Int:=c.map fun i:Nat=>(i:Int)
theorem wV (x:Nat):∀ c:List Nat,inV (.int (x:Int)) (c.map vN)=decide (x∈c)
 | []=>rfl
 | y::c=>by
  have ih:=wV x c
  unfold inV at ih ⊢
  rw[QH,Vq,ih]
  by_cases e:x=y
  ·subst e
   rw[decide_eq_true PN]
   simp [vN,eqV]
  ·have:eqV (vN y) (.int (x:Int))=false:=by
    simp [vN,eqV]
    lia
   rw[this,W4]
   exact decide_eq_decide.mpr (by simp [e])
theorem Az (c:List Nat):(c.map vN).all qw=true:=by
 rw[List.all_map,List.all_eq_true]
 intro x _
 rfl
def lfF (gs hs:List Int) (c:List Nat):List Int:=(PL gs.length).map fun i=>if i∈c then hs.getD i 0 else gs.getD i 0
abbrev qM:Stmt:=top 1
theorem zp:aX ["giving","high","crowd"] ["giving","high","crowd"] (aJ qM):=⟨rfl,rfl,rfl,by decide+kernel,rfl,by decide+kernel,by decide+kernel⟩
inductive BW (vs:List V) (H:Hp) (Q:VK):Prop where
 | mk (a b d:Addr) (gs hs:List Int) (c:List Nat) (z0:vs=[.ref a,.ref b,.ref d]) (z1:H a=some (.tup (gs.map V.int))) (z2:H b=some (.tup (hs.map V.int))) (z3:H d=some (.lst (c.map vN))) (z4:gs.length=hs.length) (z5:gs.length<=100) (z6:∀ (r:Addr) (H':Hp),aM H H'->H' r=some (.tup ((lfF gs hs c).map V.int))->Q (.ref r) H'):BW  vs H Q
def Gw:Sp:=fun vs H Q _=>BW  vs H Q
theorem Ck (F:Fun K "lifted" "lifted" qM f fd) (B:Bt mg) :
  eX P w K mg base CX0 1 f fd ["giving","high","crowd"] Gw:=by
 refine F.ok zp (fun vs H Q E h=>?_) (fun cdv A outer s H vs Q E hr h=>?_)
 ·obtain⟨a,b,d,gs,hs,c,rfl,_⟩:=h
  rfl
 ·obtain⟨a,b,d,gs,hs,c,rfl,ha,hb,hd,hl,l100,q⟩:=h
  refine⟨_,(aC (aL (bG (r:=fB K) bB rfl B.tuple_ bV (aa (bA (L:=["one","step"]) (F:=["crowd","high"]) (cap:=[2,1]) rfl (bu rfl rfl (by kernel_rfl)) (qL rfl B.enumerate_ (aa (pv 0) aq)) (fun _ _ _ _ _=>(eE (K:=K) 2 rfl rfl (aZ (aG (i:=0) (aO (by decide+kernel)) rfl (Qi rfl)) (aZ (aG (i:=1) (aO (by decide+kernel)) rfl (Qi rfl)) dR)))) (fun _ _ _ _ _=>bC) (fun _ _ _ _ _=>(wB (aV (r:=rIn K false) jF (pv 0) (pv 2) rfl) (bh (r:=jN K) bW (pv 3) (pv 0) (fun _ _=>rfl)) (pv 1)))) aq)))),?_⟩
  refine⟨_,rfl,a,_,rfl,SqT.of ha,fun D hD=>jZ (K:=K) (a:=a) (xs:=gs.map V.int) (fun i zs σ' H3=>(∃ u v,σ'=[u,v,some (.ref d),some (.ref b)])/\aM H H3/\H3 D=some (.lst zs)/\zs=((PL i).map fun j=>if j∈c then hs.getD j 0 else gs.getD j 0).map V.int)
   ⟨⟨_,_,rfl⟩,au hD _,aj,rfl⟩ (fun i zs σ' H3 _ h=>⟨SqT.of (h.2.1 _ _ ha),h.2.2.1⟩) ?_ ?_⟩
  ·rintro i zs x p σ' H3 hx hp ⟨⟨u,v,rfl⟩,sm,eD,rfl⟩
   obtain⟨y,hy,rfl⟩:=int_at hx
   have hin:=(List.getElem?_eq_some_iff.mp hy).1
   generalize eH4:upd H3 p _=H4
   obtain⟨g4,e4⟩:=aH eH4 hp
   have s4:aM H H4:=sm.trans g4
   refine⟨p,_,rfl,SqT.of e4,rfl,_,_,rfl,_,_,rfl,rfl,?_⟩
   refine tT ?_
   have gy:gs.getD i 0=y:=by rw[Pz,hy]; rfl
   have hih:i < hs.length:=by lia
   have gi:hs.getD i 0=hs[i]:=by rw[Pz,Px hih]; rfl
   refine⟨_,rfl,_,rfl,d,_,rfl,.inl (SqL.of (s4 _ _ hd)),rfl,Az c,_,rfl,?_⟩
   have nx:∀ z:Int,z=(if i∈c then hs.getD i 0 else gs.getD i 0)->((PL (i+1)).map fun j=>if j∈c then hs.getD j 0 else gs.getD j 0).map V.int=((PL i).map fun j=>if j∈c then hs.getD j 0 else gs.getD j 0).map V.int++[.int z]:=fun z ez=>by
    rw[ez,Sw,PJ,PJ]
    rfl
   have ln:(((PL i).map fun j=>if j∈c then hs.getD j 0 else gs.getD j 0).map V.int).length < sizeLine:=aD (by rw[Pq,Pq,Qn]; lia)
   rw[wV]
   by_cases e:i∈c
   ·rw[decide_eq_true e]
    refine jt ⟨_,rfl,_,rfl,b,_,_,_,rfl,rfl,SqT.of (s4 _ _ hb),o5 hih,g4 _ _ eD,ln,⟨_,_,rfl⟩,aF s4 hD _,aj,?_⟩
    exact (nx _ (by rw[if_pos e,gi])).symm
   ·rw[decide_eq_false e]
    refine gq ⟨_,rfl,g4 _ _ eD,ln,⟨_,_,rfl⟩,aF s4 hD _,aj,?_⟩
    exact (nx _ (by rw[if_neg e,gy])).symm
  ·rintro zs σ' H3 ⟨_,sm,eD,rfl⟩
   refine⟨D,_,rfl,.inl ⟨SqL.of eD,fun l hl'=>?_⟩⟩
   refine q l _ (sm.trans (au hl' _)) ?_
   rw[aj,Pq]
   rfl
theorem bw {t u:TS} {D:Ends} {σ:St} {H:Hp} (P:St->Hp->Prop) (h2:∀ σ H,P σ H->u D σ H) (h1:∀ N:St->Hp->Prop,(∀ σ H,P σ H->N σ H)->t { D with nx:=N } σ H):Dt t u D σ H:=h1 (u D) h2
abbrev jg:Stmt:=top 39
theorem uv:aX ["_law_cell_here","_law_many"] ["_law_cell_here","_law_many"] (aJ jg):=⟨rfl,rfl,rfl,by decide+kernel,rfl,by decide+kernel,by decide+kernel⟩
inductive wN (vs:List V) (H:Hp) (Q:VK):Prop where
 | mk (c:Int) (m:Nat) (z0:vs=[.int c,.int (m:Int)]) (z1:m<=100) (z2:∀ (r:Addr) (ns:List Int) (H':Hp),aM H H'->H r=none->ns.length=m->(∀ x∈ns,0<=x)->H' r=some (.lst (ns.map V.int))->Q (.ref r) H'):wN  vs H Q
def zH:Sp:=fun vs H Q _=>wN  vs H Q
theorem qX (F:Fun K "_law_picks" "_law_picks" jg f fd) (B:Bt mg)
  (D_law_draws:Df P w K mg base "_law_draws" 1 ["_law_cell_here","_law_parts"] (jb K)):eX P w K mg base CX0 2 f fd ["_law_cell_here","_law_many"] zH:=by
 refine F.ok uv (fun vs H Q E h=>?_) (fun cdv A outer s H vs Q E hr h=>?_)
 ·obtain⟨c,m,rfl,_⟩:=h
  rfl
 ·obtain⟨c,m,rfl,hm,q⟩:=h
  refine⟨_,(aA (cg (aV yw (aK jC rfl B.abs_ rR (aa (pv 0) aq)) (aP nF aB aB) (bf _)) (aC (aL (aY D_law_draws hr (aa (pv 0) (aa (aP Hh (bK (aa aB aq)) (pv 1)) aq))))) aW)
 (aC (aL (bA (L:=["_law_k"]) (F:=["_law_cell_here"]) (cap:=[0]) rfl (bu rfl rfl (by kernel_rfl)) (cG rfl B.range_ (aa (pv 1) aq)) (fun _ _ _ _ _=>(aG (i:=0) (aO (by decide+kernel)) rfl (Qi rfl))) (fun _ _ _ _ _=>bC) (fun _ _ _ _ _=>(bh (r:=fX K) aQ (aY D_law_draws hr (aa (aP bT (pv 1) (aP gJ aB (pv 0))) (aa (bK (aa aB aq)) aq))) aB (fun _ _=>rfl))))))),?_⟩
  have em:((m:Int)).toNat=m:=Qx m
  refine⟨_,rfl,_,rfl,_,_,rfl,rfl,⟨by decide,by decide,by decide⟩,_,_,rfl,rfl,_,rfl,?_⟩
  refine yP (fun h=>?_) (fun h=>?_)
  ·refine⟨_,rfl,small (by show 1<=1000; decide),fun p1 h1=>?_⟩
   generalize eH1:upd H p1 _=H1
   obtain⟨g1,e1⟩:=aH eH1 h1
   refine⟨_,rfl,p1,_,_,rfl,rfl,e1,by lia,by lia,small (by show 1 * ((m:Int)).toNat<=1000; lia),fun p2 h2=>?_⟩
   rw[qJ,em]
   generalize eH2:upd H1 p2 _=H2
   obtain⟨g2,e2⟩:=aH eH2 h2
   refine⟨c,p2,Qd m 27720,rfl,SqL.of e2,fun x hx=>by rw[(List.mem_replicate.mp hx).2]; decide,by rw[Rf]; lia,fun r h3=>?_⟩
   have s12:aM H H2:=g1.trans g2
   refine q r _ _ (s12.trans (au h3 _)) (s12.free h3) ?_ ?_ aj
   ·unfold ug
    rw[dZ,Rf]
   ·intro x hx
    obtain⟨i,hi,rfl⟩:=RP hx
    unfold ug at hi ⊢
    have hi':i < m:=by rw[dZ,Rf] at hi; exact hi
    obtain⟨v,e,b0,_⟩:=bL (c:=jW c) (i:=i) (ps:=Qd m 27720) (p:=27720) (fun x hx=>by rw[(List.mem_replicate.mp hx).2]; decide) (by rw[TQ,if_pos hi'])
    rw[Px hi] at e
    rw[QC e]
    exact b0
  ·refine nN ?_
   dsimp only
   refine⟨_,rfl,_,rfl,by lia,by lia,fun D hD=>dm (lo:=0) (n:=((m:Int)).toNat) (fun i zs σ' H2=>(∃ u,σ'=[u,some (.int c)])/\aM H H2/\H2 D=some (.lst zs)/\∃ ns:List Int,zs=ns.map V.int/\ns.length=i/\∀ x∈ns,0<=x)
    ⟨⟨_,rfl⟩,au hD _,aj,[],rfl,rfl,by simp⟩ (fun i zs σ' H2 _ h=>h.2.2.1) ?_ ?_⟩
   ·rintro i zs σ' H2 hi ⟨⟨u,rfl⟩,sm,eD,ns,ez,ln,hns⟩
    refine gT ?_
    refine⟨_,rfl,_,rfl,_,_,rfl,rfl,.inl ⟨by decide,by decide⟩,_,_,rfl,rfl,small (by show 1<=1000; decide),fun p1 h1=>?_⟩
    generalize eH3:upd H2 p1 _=H3
    obtain⟨g3,e3⟩:=aH eH3 h1
    refine⟨_,p1,[27720],rfl,SqL.of e3,by decide,by decide,fun r h4=>?_⟩
    generalize eH4:upd H3 r _=H4
    obtain⟨g4,e4⟩:=aH eH4 h4
    obtain⟨d0,k0,b0⟩:=bL (c:=jW (c+101 * (0+(i:Int)))) (i:=0) (ps:=[27720]) (by decide) rfl
    have a0:=aU (dU k0)
    have s24:aM H2 H4:=g3.trans g4
    refine⟨r,_,_,_,rfl,rfl,SqL.of e4,a0,s24 _ _ eD,aD (by rw[ez,Pq]; lia),⟨_,rfl⟩,aF (sm.trans s24) hD _,aj,ns++[d0],?_,?_,?_⟩
    ·rw[ez,PJ]
     rfl
    ·rw[Qf,ln]
     rfl
    ·intro x hx
     rcases List.mem_append.mp hx with z | z
     ·exact hns x z
     ·rw[List.mem_singleton.mp z]
      exact b0.1
   ·rintro zs σ' H2 ⟨_,sm,eD,ns,ez,ln,hns⟩
    exact q D ns H2 sm hD (by lia) hns (by rw[eD,ez])
abbrev jl:Stmt:=top 40
theorem fW:aX ["_law_cell_here","_law_n","_law_rest","_law_found","_law_pick"] ["_law_cell_here","_law_n"] (aJ jl):=⟨rfl,rfl,rfl,by decide+kernel,rfl,by decide+kernel,by decide+kernel⟩
inductive xJ (vs:List V) (H:Hp) (Q:VK):Prop where
 | mk (c:Int) (n:Nat) (z0:vs=[.int c,.int (n:Int)]) (z1:1<=n) (z2:n<=12) (z3:∀ (r:Addr) (rs:List Nat) (H':Hp),aM H H'->H r=none->rs.Perm (PL n)->H' r=some (.lst (rs.map vN))->Q (.ref r) H'):xJ  vs H Q
def zu:Sp:=fun vs H Q _=>xJ  vs H Q
theorem Fw {l:Addr} {xs:List V} {k:Nat} {y:V} {H:Hp} {Q:VK} (hl:H l=some (.lst xs)) (hk:k < xs.length) (h5:xs.length<=100) (hy:xs[k]? = some y) (q:Q y (upd H l (.lst (xs.eraseIdx k)))):GX (.ref l) [.int (k:Int)] H Q:=by
 refine⟨l,xs,(k:Int),k,y,rfl,rfl,hl,by lia,by lia,?_,hy,q⟩
 have hj:(if (k:Int) < 0 then (k:Int)+(xs.length:Int) else (k:Int))=(k:Int):=if_neg (by lia)
 have hd:((decide (0<=(k:Int)) && decide ((k:Int) < (xs.length:Int)))=true):=by
  rw[decide_eq_true (by lia),decide_eq_true (by lia)]
  rfl
 show (if (decide (0<=if (k:Int) < 0 then (k:Int)+(xs.length:Int) else (k:Int)) && decide ((if (k:Int) < 0 then (k:Int)+(xs.length:Int) else (k:Int)) < (xs.length:Int)))=true then some (if (k:Int) < 0 then (k:Int)+(xs.length:Int) else (k:Int)).toNat else none)=some k
 rw[hj,if_pos hd,Qx]
theorem rJ {α β:Type} (f:α->β):∀ (xs:List α) (k:Nat),(xs.map f).eraseIdx k=(xs.eraseIdx k).map f
 | [],_=>rfl
 | _::_,0=>rfl
 | x::r,k+1=>by
  show f x::(r.map f).eraseIdx k=f x::(r.eraseIdx k).map f
  rw[rJ f r k]
theorem kJ {α:Type}:∀ {xs:List α} {k:Nat} {y:α},xs[k]? = some y->(y::xs.eraseIdx k).Perm xs
 | [],_,_,h=>by simp at h
 | x::r,0,y,h=>by
  cases (show some x=some y from h)
  exact .refl _
 | x::r,k+1,y,h=>by
  have ih:=kJ (xs:=r) (k:=k) (y:=y) (by simpa using h)
  exact (List.Perm.swap x y (r.eraseIdx k)).trans (ih.cons x)
theorem tV (F:Fun K "_law_order" "_law_order" jl f fd) (B:Bt mg)
  (D_law_picks:Df P w K mg base "_law_picks" 2 ["_law_cell_here","_law_many"] zH):eX P w K mg base CX0 3 f fd ["_law_cell_here","_law_n"] zu:=by
 refine F.ok fW (fun vs H Q E h=>?_) (fun cdv A outer s H vs Q E hr h=>?_)
 ·obtain⟨c,n,rfl,_⟩:=h
  rfl
 ·obtain⟨c,n,rfl,n1,n12,q⟩:=h
  refine⟨_,(aA (aR (i:=2) fW.nd rfl (Qi rfl) (tE rfl rfl B.list_ rfl B.range_ (aa (pv 1) aq)))
 (aA (aR (i:=3) fW.nd rfl (Qi rfl) (bK aq))
 (aA (gK Ro rfl (dY (aY D_law_picks hr (aa (pv 0) (aa (pv 1) aq)))) (aG (i:=4) fW.nd rfl (Qi rfl)) (aC (gk (jX QB Rm Rk cM (pv 3) (aa (jX QB PySem.F.slot_list_pop PySem.F.type_list_pop Ep (pv 2) (aa (aP cU (pv 4) (aK (r:=yR K) cI rfl B.len_ ig (aa (pv 2) aq))) aq)) aq)))))
 (aC (aL (pv 3)))))),?_⟩
  refine⟨_,rfl,n,rfl,by lia,fun l h0=>?_⟩
  rw[← eF]
  generalize eH1:upd H l _=H1
  obtain⟨g1,e1⟩:=aH eH1 h0
  refine⟨small (by show 0<=1000; decide),fun r h2=>?_⟩
  generalize eH2:upd H1 r _=H2
  obtain⟨g2,e2⟩:=aH eH2 h2
  have hrl:r≠l:=fun z=>by rw[z,e1] at h2; cases h2
  refine⟨_,rfl,_,rfl,c,n,rfl,by lia,fun pp ns H3 s3 fpp ln hns epp=>?_⟩
  have e13:=s3 _ _ (g2 _ _ e1)
  have e23:=s3 _ _ e2
  have hpr:pp≠r:=fun z=>by rw[z,e2] at fpp; cases fpp
  have hpl:pp≠l:=fun z=>by rw[z,g2 _ _ e1] at fpp; cases fpp
  refine⟨pp,rfl,⟨_,SqL.of epp⟩,my (K:=K) (a:=pp) (xs:=ns.map V.int) (fun i σ H4=>∃ (fs ms:List Nat),(∃ u,σ=[some (.int c),some (.int (n:Int)),some (.ref l),some (.ref r),u])/\aM H H4/\H4 pp=some (.lst (ns.map V.int))/\H4 l=some (.lst (ms.map vN))/\H4 r=some (.lst (fs.map vN))/\(fs++ms).Perm (PL n)/\ms.length+i=n)
   ⟨[],PL n,⟨_,rfl⟩,g1.trans (g2.trans s3),epp,e13,e23,.refl _,by rw[Qn]; rfl⟩ (fun i σ H4 _ h=>by obtain⟨_,_,_,_,z,_⟩:=h; exact SqL.of z) ?_ ?_⟩
  ·rintro i x σ H4 hx ⟨fs,ms,⟨u,rfl⟩,s4,ep4,el4,er4,pm,lm⟩
   obtain⟨pk,hpk,rfl⟩:=int_at hx
   have hi:i < ns.length:=(List.getElem?_eq_some_iff.mp hpk).1
   have lml:((ms.map vN).length:Int)=(ms.length:Int):=by rw[Pq]
   have hms:0 < ms.length:=by lia
   have v1:0<=pk % ((ms.map vN).length:Int):=Ri _ (by lia)
   have v2:pk % ((ms.map vN).length:Int) < ((ms.map vN).length:Int):=QL _ (by lia)
   obtain⟨k,hk⟩:=TV v1
   have hkm:k < ms.length:=by lia
   obtain⟨y,hy⟩:∃ y,ms[k]? = some y:=⟨_,Px hkm⟩
   have hfl:fs.length+ms.length=n:=by
    have:=pm.length_eq
    rw[Qf,Qn] at this
    exact this
   refine⟨_,rfl,.inl ⟨rfl,_,SqL.of er4⟩,_,rfl,.inl ⟨rfl,_,SqL.of el4⟩,_,rfl,_,rfl,l,_,rfl,.inl (SqL.of el4),_,_,rfl,rfl,(by show (0:Int) < ((ms.map vN).length:Int); lia),?_⟩
   dsimp only
   rw[hk]
   unfold LQ
   dsimp only
   refine Fw el4 (by rw[Pq]; exact hkm) (by rw[Pq]; lia) (y:=vN y) (by rw[Qj,hy]; rfl) ?_
   have er5:upd H4 l (.lst ((ms.map vN).eraseIdx k)) r=some (.lst (fs.map vN)):=by rw[bx hrl]; exact er4
   refine⟨r,_,_,rfl,rfl,er5,aD (by rw[Pq]; lia),fs++[y],ms.eraseIdx k,⟨_,rfl⟩,?_,?_,?_,?_,?_,?_⟩
   ·exact aF (aF s4 h0 _) (g1.free h2) _
   ·rw[bx hpr,bx hpl]
    exact ep4
   ·rw[bx (Tu hrl),aj,rJ]
   ·rw[aj,PJ]
    rfl
   ·rw[Tn]
    exact ((kJ hy).append_left fs).trans pm
   ·have:=(kJ hy).length_eq
    rw[Qk] at this
    lia
  ·rintro σ H4 ⟨fs,ms,⟨u,rfl⟩,s4,ep4,el4,er4,pm,lm⟩
   rw[Pq,ln] at lm
   have:ms=[]:=List.length_eq_zero_iff.mp (by lia)
   rw[this,Sx] at pm
   exact⟨_,rfl,q r fs H4 s4 (g1.free h2) pm er4⟩
def ixP:List Nat->Nat->Nat
 | [],_=>0
 | x::r,j=>if x=j then 0 else ixP r j+1
theorem rN:∀ {rs:List Nat} {j:Nat},j∈rs->rs[ixP rs j]? = some j/\∀ i < ixP rs j,rs[i]?≠some j
 | [],_,h=>by cases h
 | x::r,j,h=>by
  rw[ixP]
  by_cases e:x=j
  ·rw[if_pos e]
   exact⟨by rw[e]; rfl,fun i hi=>absurd hi (Vz _)⟩
  ·rw[if_neg e]
   have hr:j∈r:=by
    rcases List.mem_cons.mp h with z | z
    ·exact absurd z.symm e
    ·exact z
   obtain⟨h1,h2⟩:=rN hr
   refine⟨by simpa using h1,fun i hi=>?_⟩
   cases i with
   | zero=>exact fun z=>e (by simpa using z)
   | succ i=>simpa using h2 i (by lia)
theorem HJ {rs:List Nat} (nd:rs.Nodup) {i:Nat} (hi:i < rs.length):ixP rs rs[i]=i:=by
 have h:=(rN (Q9 hi)).1
 have hl:=(List.getElem?_eq_some_iff.mp h).1
 rw[Px hl] at h
 exact (Wo nd).mp (QC h)
section
variable {n:Nat} {rs:List Nat}
theorem cQ (h:rs.Perm (PL n)):rs.Nodup/\rs.length=n/\(∀ x∈rs,x < n)/\∀ j < n,j∈rs:=⟨h.nodup_iff.mpr List.nodup_range,by rw[h.length_eq,Qn],fun x hx=>List.mem_range.mp (h.mem_iff.mp hx),fun j hj=>h.mem_iff.mpr (List.mem_range.mpr hj)⟩
def OD (n:Nat) (rs:List Nat):List Nat:=(PL n).map (ixP rs)
theorem La (h:rs.Perm (PL n)):∀ x∈OD n rs,x < n:=fun x hx=>by
 obtain⟨j,hj,rfl⟩:=List.mem_map.mp hx
 obtain⟨_,hl,_,hm⟩:=cQ h
 have:=(List.getElem?_eq_some_iff.mp (rN (hm j (List.mem_range.mp hj))).1).1
 lia
theorem Cr (hl:rs.length=n) {i:Nat} (hi:i < n):dg rs i=rs[i]'(by lia):=by
 unfold dg
 rw[Pz,Px (by lia)]
 rfl
def cj (n:Nat) (rs:List Nat) (g:List Int):List Int:=(PL n).map fun j=>g.getD (ixP rs j) 0
theorem mW (h:rs.Perm (PL n)) (g:List Int):∀ i < n,(cj n rs g).getD (dg rs i) 0=g.getD i 0:=fun i hi=>by
 obtain⟨nd,hl,hv,hm⟩:=cQ h
 have hi':i < rs.length:=by lia
 have hj:=hv _ (Q9 hi')
 rw[Cr hl hi]
 unfold cj
 rw[Pz,Qj,RG hj]
 show g.getD (ixP rs rs[i]) 0=_
 rw[HJ nd hi']
end
theorem wM {l:Addr} {rs:List Nat} {j:Nat} {H:Hp} {Q:VK} (hl:H l=some (.lst (rs.map vN))) (hj:j∈rs) (q:Q (.int (ixP rs j:Int)) H):Gy (.ref l) [.int (j:Int)] H Q:=by
 obtain⟨h1,h2⟩:=rN hj
 refine⟨l,rs.map fun i:Nat=>(i:Int),(j:Int),ixP rs j,rfl,rfl,by rw[hl,eF],by rw[Qj,h1]; rfl,fun i hi z=>h2 i hi ?_,q⟩
 rw[Qj] at z
 cases e:rs[i]? with
 | none=>rw[e] at z; cases z
 | some x =>
  rw[e] at z
  have:(x:Int)=(j:Int):=QC z
  congr 1
  lia
def hdF (bk:List (List Pl)) (lo g:List Int):List Int:=(PL bk.length).map fun i=>max (lo.getD i 0) (min (g.getD i 0) (duF g 0 (bk.getD i [])))
theorem o4 {bk:List (List Pl)} {lo g:List Int} {i:Nat} (h:i < bk.length):(hdF bk lo g).getD i 0=max (lo.getD i 0) (min (g.getD i 0) (duF g 0 (bk.getD i []))):=by
 unfold hdF
 rw[Pz,Qj,RG h]
 rfl
theorem gF (bk:List (List Pl)) (lo g:List Int):(hdF bk lo g).length=bk.length:=by unfold hdF; rw[Pq,Qn]
def Low (n:Nat) (fl:List Int) (bk:List (List Pl)) (lo:List Int):Prop:=okG n lo/\eV lo fl bk=lo/\∀ g,LeG (eV g fl bk) g->LeG lo g
def InS (n:Nat) (fl:List Int) (bk:List (List Pl)) (lo:List Int) (c:List Nat) (g:List Int):Prop:=okG n g/\(∀ i < n,i ∉ c->g.getD i 0=lo.getD i 0)/\LeG lo g/\LeG g (eV g fl bk)
def Ez (n:Nat) (fl:List Int) (bk:List (List Pl)) (lo:List Int) (c:List Nat) (g:List Int):Prop:=InS n fl bk lo c g/\∀ w,InS n fl bk lo c w->LeG w g
section
variable {n:Nat} {fl:List Int} {bk:List (List Pl)}
theorem gR (g:List Int):LeG g g:=fun i=>Rx _
theorem Low.uniq {lo lo':List Int} (h:Low n fl bk lo) (h':Low n fl bk lo'):lo=lo' :=
 fD (by rw[h.1.1,h'.1.1]) (h.2.2 _ (by rw[h'.2.1]; exact gR _)) (h'.2.2 _ (by rw[h.2.1]; exact gR _))
theorem Ez.uniq {lo:List Int} {c:List Nat} {g g':List Int} (h:Ez n fl bk lo c g) (h':Ez n fl bk lo c g'):g=g' :=
 fD (by rw[h.1.1.1,h'.1.1.1]) (h'.2 _ h.1) (h.2 _ h'.1)
theorem dq (hb:bk.length=n) (ok:okB bk) (hf:okG n fl) {m:Nat} (st:Stops (Fd fl bk) fl m):Low n fl bk (itF (Fd fl bk) fl m) :=
 ⟨dG hb ok hf hf m,st.1,fun _ h=>rC hb ok hf h m⟩
theorem BV (hb:bk.length=n) (ok:okB bk) (hf:okG n fl) {lo:List Int} (h:Low n fl bk lo):LeG fl lo:=by
 have:=nU hb ok hf lo
 rw[h.2.1] at this
 exact this
theorem m7 (hb:bk.length=n) (ok:okB bk) {g g':List Int} (l:LeG g g') {i:Nat} (hi:i < n):duF g 0 (bk.getD i [])<=duF g' 0 (bk.getD i []):=by
 have h2:i < bk.length:=by lia
 rw[DN h2]
 exact wZ l (ok bk[i] (Q9 h2)) (Rx _)
theorem GR (hb:bk.length=n) {lo g:List Int} (hl:okG n lo) (hg:okG n g) (l:LeG lo g):okG n (hdF bk lo g):=by
 refine o8 (by rw[gF]; exact hb) fun i hi=>?_
 rw[o4 (by lia)]
 have:=dw hl hi
 have:=dw hg hi
 have:=l i
 lia
theorem Mq (hb:bk.length=n) {lo g:List Int} (hl:okG n lo):LeG lo (hdF bk lo g):=by
 refine iC (by rw[gF,hl.1,hb]) fun i hi=>?_
 rw[hl.1] at hi
 rw[o4 (by lia)]
 lia
theorem K3 (hb:bk.length=n) {lo g:List Int} (hg:okG n g) (l:LeG lo g):LeG (hdF bk lo g) g:=by
 refine iC (by rw[gF,hg.1,hb]) fun i hi=>?_
 rw[gF] at hi
 rw[o4 hi]
 have:=l i
 lia
theorem wR (hb:bk.length=n) (ok:okB bk) (hf:okG n fl) {lo g w:List Int} (hlo:Low n fl bk lo) (hw:okG n w) (hk:LeG w (eV w fl bk)) (l:LeG w g):LeG w (hdF bk lo g):=by
 refine iC (by rw[gF,hw.1,hb]) fun i hi=>?_
 rw[hw.1] at hi
 rw[o4 (by lia)]
 have h1:=hk i
 rw[iY hb hf w hi] at h1
 have h2:=BV hb ok hf hlo i
 have h3:=m7 hb ok l hi
 have h4:=l i
 lia
theorem uT (hb:bk.length=n) {lo x:List Int} (hl:okG n lo) (hx:okG n x) (l:LeG lo x):∀ j,okG n (itF (hdF bk lo) x j)/\LeG lo (itF (hdF bk lo) x j)/\LeG (itF (hdF bk lo) x j) x
 | 0=>⟨hx,l,gR _⟩
 | j+1=>by
  obtain⟨h1,h2,h3⟩:=uT hb hl hx l j
  exact⟨GR hb hl h1 h2,Mq hb hl,(K3 hb h1 h2).trans h3⟩
theorem xm (hb:bk.length=n) {lo x:List Int} (hl:okG n lo) (hx:okG n x) (l:LeG lo x):∃ m,m<=9 * n/\Stops (hdF bk lo) x m:=by
 refine pZ (fun g=>9 * (n:Int) - g.sum) (9 * n) (fun k=>?_) (fun k=>?_) fun k hk=>?_
 ·obtain⟨h1,_,_⟩:=uT hb hl hx l k
  have:=sum_bound h1.2
  rw[h1.1] at this
  lia
 ·obtain⟨h1,_,_⟩:=uT hb hl hx l k
  have:=sum_bound h1.2
  lia
 ·obtain⟨h1,h2,_⟩:=uT hb hl hx l k
  have h3:=GR hb hl h1 h2
  have h4:=K3 hb h1 h2
  obtain⟨s1,s2⟩:=gC (g:=hdF bk lo (itF (hdF bk lo) x k)) (g':=itF (hdF bk lo) x k) (by rw[h3.1,h1.1]) fun i _=>h4 i
  have:(hdF bk lo (itF (hdF bk lo) x k)).sum≠(itF (hdF bk lo) x k).sum:=fun z=>hk (s2 z)
  show 9 * (n:Int) - (itF (hdF bk lo) x k).sum < 9 * (n:Int) - (hdF bk lo (itF (hdF bk lo) x k)).sum
  lia
theorem mL {gs hs:List Int} {c:List Nat} {i:Nat} (h:i < gs.length):(lfF gs hs c).getD i 0=if i∈c then hs.getD i 0 else gs.getD i 0:=by
 unfold lfF
 rw[Pz,Qj,RG h]
 rfl
theorem jY (gs hs:List Int) (c:List Nat):(lfF gs hs c).length=gs.length:=by unfold lfF; rw[Pq,Qn]
theorem wQ {gs hs:List Int} (hg:okG n gs) (hh:okG n hs) (c:List Nat):okG n (lfF gs hs c):=by
 refine o8 (by rw[jY]; exact hg.1) fun i hi=>?_
 rw[mL (by rw[hg.1]; exact hi)]
 have:=dw hg hi
 have:=dw hh hi
 split <;> lia
theorem K4 {gs hs:List Int} (hg:okG n gs) (l:LeG gs hs) (c:List Nat):LeG gs (lfF gs hs c):=by
 refine iC (by rw[jY]) fun i hi=>?_
 rw[mL hi]
 have:=l i
 split <;> lia
theorem Fb (hb:bk.length=n) (ok:okB bk) (hf:okG n fl) {lo hi:List Int} (hlo:Low n fl bk lo) (hh:okG n hi) (l:LeG lo hi) (hup:∀ w,okG n w->LeG w (eV w fl bk)->LeG w hi) {c:List Nat} {m:Nat} (st:Stops (hdF bk lo) (lfF lo hi c) m):Ez n fl bk lo c (itF (hdF bk lo) (lfF lo hi c) m):=by
 obtain⟨h1,h2,h3⟩:=uT hb hlo.1 (wQ hlo.1 hh c) (K4 hlo.1 l c) m
 have fx:=st.1
 refine⟨⟨h1,fun i hi' hc=>?_,h2,?_⟩,fun w hw=>?_⟩
 ·have a:=h2 i
  have b:=h3 i
  rw[mL (by rw[hlo.1.1]; exact hi'),if_neg hc] at b
  lia
 ·refine iC (by rw[h1.1,(fK hb ok hf _).1]) fun i hi'=>?_
  rw[h1.1] at hi'
  have e:=o4 (bk:=bk) (lo:=lo) (g:=itF (hdF bk lo) (lfF lo hi c) m) (i:=i) (by lia)
  rw[fx] at e
  rw[iY hb hf _ hi']
  have a:=iY hb hf lo hi'
  rw[hlo.2.1] at a
  have b:=m7 hb ok h2 hi'
  lia
 ·have hwl:LeG w (lfF lo hi c):=by
   refine iC (by rw[jY,hw.1.1,hlo.1.1]) fun i hi'=>?_
   rw[hw.1.1] at hi'
   rw[mL (by rw[hlo.1.1]; exact hi')]
   split
   ·exact hup w hw.1 hw.2.2.2 i
   ·rename_i hc
    rw[hw.2.1 i hi' hc]
    exact Rx _
  have key:∀ j,LeG w (itF (hdF bk lo) (lfF lo hi c) j):=by
   intro j
   induction j with
   | zero=>exact hwl
   | succ j ih=>exact wR hb ok hf hlo hw.1 hw.2.2.2 ih
  exact key m
end
abbrev iW:Stmt:=top 21
abbrev Am:Stmt:=top 22
theorem qQ:aX ["pledges","low","step","giving"] ["pledges","low","step","giving"] (aJ iW):=⟨rfl,rfl,rfl,by decide+kernel,rfl,by decide+kernel,by decide+kernel⟩
theorem mZ:aX ["book","sure","giving","lesser"] ["book","sure","giving"] (aJ Am):=⟨rfl,rfl,rfl,by decide+kernel,rfl,by decide+kernel,by decide+kernel⟩
theorem jy {α:Type} (u:α->Int) (st:Int):∀ (ps:List α) (a b:Int),min st b<=a->(ps.map fun p=>min st (u p)).foldl max a=max a (min st ((ps.map u).foldl max b))
 | [],a,b,h=>by
  show a=max a (min st b)
  lia
 | p::ps,a,b,h=>by
  rw[QH,QH,Rh,Rh,jy u st ps (max a (min st (u p))) (max b (u p)) (by lia)]
  have:=(eU (ps.map u) (max b (u p))).1
  lia
inductive xH (K:Qp) (vs:List V) (H:Hp) (Q:VK):Prop where
 | mk (c g:Addr) (n:Nat) (as:List Addr) (ps:List Pl) (ns:List Int) (lo st:Int) (z0:vs=[.ref c,.int lo,.int st,.ref g]) (z1:H c=some (.lst (as.map V.ref))) (z2:as.length<=100) (z3:dH n H as ps) (z4:SqT K H g (ns.map V.int)) (z5:n<=ns.length) (z6:0<=lo) (z7:lo<=st) (z8:∀ H',aM H H'->Q (.int (max lo (min st (duF ns 0 ps)))) H'):xH K vs H Q
def Bq (K:Qp):Sp:=fun vs H Q _=>xH K vs H Q
theorem tG {k:Nat} (F:Fun K "held_step" "held_step" iW f fd) (B:Bt mg)
  (D_owes:Df P w K mg base "owes" k ["pledge","giving"] (Dj K)):eX P w K mg base CX0 (k+1) f fd ["pledges","low","step","giving"] (Bq K):=by
 refine F.ok qQ (fun vs H Q E h=>?_) (fun cdv A outer s H vs Q E hr h=>?_)
 ·obtain⟨c,g,n,as,ps,ns,lo,st,rfl,_⟩:=h
  rfl
 ·obtain⟨c,g,n,as,ps,ns,lo,st,rfl,hc,l100,rps,hg,hn,h0,hls,q⟩:=h
  have ell:=rps.length
  refine⟨_,(aA (cg (aV gA (pv 2) (pv 1) (bf _)) (aC (aL (pv 1))) aW)
 (aC (aL (aK (r:=Fq K) (mR rfl) rfl B.max_ wK (aa (aP Aq (bK (aa (pv 1) aq)) (bA (L:=["pledge"]) (F:=["step","giving"]) (cap:=[2,3]) rfl (bu rfl rfl (by kernel_rfl)) (dY (pv 0)) (fun _ _ _ _ _=>(aG (i:=0) (aO (by decide+kernel)) rfl (Qi rfl))) (fun _ _ _ _ _=>bC) (fun _ _ _ _ _=>(aK (qY rfl) rfl B.min_ GK (aa (pv 1) (aa (aY D_owes hr (aa (pv 0) (aa (pv 2) aq))) aq)))))) aq))))),?_⟩
  refine⟨_,rfl,_,rfl,rfl,_,rfl,?_⟩
  by_cases e:st=lo
  ·subst e
   rw[decide_eq_true rfl]
   refine jt ⟨_,rfl,?_⟩
   have:=q H (aM.refl _)
   rw[show max st (min st (duF ns 0 ps))=st by lia] at this
   exact this
  ·rw[decide_eq_false (fun z=>e (by cases z; rfl))]
   refine gq ?_
   refine⟨_,rfl,small (by show 1<=1000; decide),fun p4 h4=>?_⟩
   generalize eH4:upd H p4 _=H4
   obtain⟨g4,e4⟩:=aH eH4 h4
   refine⟨_,rfl,c,rfl,⟨_,SqL.of (g4 _ _ hc)⟩,fun D2 hD2=>cH (K:=K) (a:=c) (xs:=as.map V.ref) (fun j ws σ' H5=>(∃ u,σ'=[u,some (.int st),some (.ref g)])/\ws=((ps.take j).map fun p=>min st (owF ns p)).map V.int/\aM H4 H5/\H5 D2=some (.lst ws))
    ⟨⟨_,rfl⟩,rfl,au hD2 _,aj⟩ (fun j ws σ' H5 _ h=>⟨SqL.of (h.2.2.1 _ _ (g4 _ _ hc)),h.2.2.2⟩) ?_ ?_⟩
   ·rintro j ws x σ' H5 hx ⟨⟨u,rfl⟩,e5,s5,hD5⟩
    obtain⟨a,ha,rfl⟩:=Bh hx
    obtain⟨pl,hpl,rpl⟩:=rps.get ha
    refine gT ?_
    refine⟨_,rfl,_,rfl,_,rfl,a,g,n,pl,ns,rfl,rpl.mono (g4.trans s5),jB (g4.trans s5) hg,hn,fun H6 s6=>?_⟩
    refine⟨_,_,rfl,s6 _ _ hD5,?_,⟨_,rfl⟩,?_,aF (s5.trans s6) hD2 _,aj⟩
    ·rw[e5,Pq,Pq,Qh]
     exact aD (by lia)
    ·rw[e5,take_snoc (fun p=>min st (owF ns p)) hpl,PJ]
     congr 1
     show[V.int _]=[V.int _]
     congr 2
     split <;> lia
   ·rintro ws σ' H5 ⟨_,e5,s5,hD5⟩
    rw[Pq,ell,Qg] at e5
    subst e5
    refine⟨p4,D2,_,_,rfl,rfl,s5 _ _ e4,hD5,small ?_,fun p6 h6=>?_⟩
    ·rw[Pq,Pq]
     show 1+ps.length<=1000
     lia
    generalize eH6:upd H5 p6 _=H6
    obtain⟨g6,e6⟩:=aH eH6 h6
    refine⟨p6,lo::ps.map fun p=>min st (owF ns p),rfl,SqL.of e6,by simp,?_⟩
    have:=q H6 (g4.trans (s5.trans g6))
    rw[show max lo (min st (duF ns 0 ps))=mxD 0 (lo::ps.map fun p=>min st (owF ns p)) from (jy (owF ns) st ps lo 0 (by lia)).symm] at this
    exact this
inductive CP (vs:List V) (H:Hp) (Q:VK):Prop where
 | mk (b f g:Addr) (n:Nat) (bk:List (List Pl)) (lo x:List Int) (z0:vs=[.ref b,.ref f,.ref g]) (z1:nZ n H b bk) (z2:bk.length=n) (z3:H f=some (.tup (lo.map V.int))) (z4:okG n lo) (z5:H g=some (.tup (x.map V.int))) (z6:okG n x) (z7:LeG lo x) (z8:∀ (m:Nat) (r:Addr) (H':Hp),Stops (hdF bk lo) x m->aM H H'->H' r=some (.tup ((itF (hdF bk lo) x m).map V.int))->Q (.ref r) H'):CP  vs H Q
def Gi:Sp:=fun vs H Q _=>CP  vs H Q
def HW (bk:List (List Pl)) (lo x:List Int) (M:Nat) (b f:Addr) (H:Hp) (m:Nat) (σ:St) (H3:Hp):Prop:=∃ (t:Nat) (la:Addr) (gv:V),t+m=M+1/\σ=[some (.ref b),some (.ref f),some gv,some (.ref la)]/\aM H H3/\H3 la=some (.tup ((itF (hdF bk lo) x t).map V.int)) ∧
 ((t=0/\gv = .non)∨∃ (ga:Addr) (j:Nat),t=j+1/\gv = .ref ga/\H3 ga=some (.tup ((itF (hdF bk lo) x j).map V.int)))
theorem Jm {k:Nat} (F:Fun K "held" "held" Am f fd) (B:Bt mg)
  (D_held_step:Df P w K mg base "held_step" k ["pledges","low","step","giving"] (Bq K)):eX P w K mg base CX0 (k+1) f fd ["book","sure","giving"] Gi:=by
 refine F.ok mZ (fun vs H Q E h=>?_) (fun cdv A outer s H vs Q E hr h=>?_)
 ·obtain⟨b,f,g,n,bk,lo,x,rfl,_⟩:=h
  rfl
 ·obtain⟨b,f,g,n,bk,lo,x,rfl,hB,lb,hf,ol,hg,ox,lx,q⟩:=h
  refine⟨_,(aA (aR (i:=3) mZ.nd rfl (Qi rfl) (pv 2))
 (aA (aR (i:=2) mZ.nd rfl (Wg rfl) Lq)
 (aA (pW Ro (aV (r:=Ce K) (DP hr.mF) (pv 3) (pv 2) (bf _)) (aA (aR (i:=2) mZ.nd rfl (Wg rfl) (pv 3))
 (aC (aR (i:=3) mZ.nd rfl (Qi rfl) (bG (r:=fB K) bB rfl B.tuple_ bV (aa (bA (L:=["pledges","low","step"]) (F:=["giving"]) (cap:=[2]) rfl (bu rfl rfl (by kernel_rfl)) (Nu rfl B.zip_ (aa (pv 0) (aa (pv 1) (aa (pv 2) aq)))) (fun _ _ _ _ _=>(eE (K:=K) 3 rfl rfl (aZ (aG (i:=0) (aO (by decide+kernel)) rfl (Qi rfl)) (aZ (aG (i:=1) (aO (by decide+kernel)) rfl (Qi rfl)) (aZ (aG (i:=2) (aO (by decide+kernel)) rfl (Qi rfl)) dR))))) (fun _ _ _ _ _=>bC) (fun _ _ _ _ _=>(aY D_held_step hr (aa (pv 0) (aa (pv 1) (aa (pv 2) (aa (pv 3) aq))))))) aq))))))
 (aC (aL (pv 2)))))),?_⟩
  obtain⟨us0,hb,rb,l12⟩:=id hB
  have el:=rb.length
  obtain⟨M,hM,st⟩:=xm lb ol ox lx
  have io:=uT lb ol ox lx
  refine⟨_,rfl,?_⟩
  refine⟨HW bk lo x M b f H,⟨M+1,0,g,.non,by lia,rfl,aM.refl _,hg,.inl ⟨rfl,rfl⟩⟩,?_⟩
  rintro m σ H3 ⟨t,la,gv,htm,rfl,s3,ela,hgv⟩
  obtain⟨og,olow,_⟩:=io t
  have s3b:=s3 _ _ hb
  have s3f:=s3 _ _ hf
  have key:∀ Q':VK,(1<=m->Q' (.bl true) H3)->(∀ (ga:Addr),gv = .ref ga->H3 ga=some (.tup ((itF (hdF bk lo) x M).map V.int))->Q' (.bl false) H3)->Ce K (.ref la) gv H3 Q':=fun Q' hT hF=>by
   rcases hgv with⟨ht,rfl⟩ | ⟨ga,j,ht,rfl,ega⟩
   ·exact .inr ⟨la,_,rfl,rfl,SqT.of ela,hT (by lia)⟩
   ·refine .inl ⟨la,ga,_,_,rfl,rfl,SqT.of ela,SqT.of ega,?_⟩
    subst ht
    by_cases e:itF (hdF bk lo) x (j+1)=itF (hdF bk lo) x j
    ·rw[decide_eq_true e]
     have ej:j=M:=by
      rcases R8 j M with z | z
      ·exact absurd e (st.2 j z)
      ·lia
     subst ej
     exact hF ga rfl ega
    ·rw[decide_eq_false e]
     refine hT ?_
     rcases R8 j M with z | z
     ·lia
     ·have:j=M:=by lia
      subst this
      exact absurd st.1 e
  refine⟨_,rfl,_,rfl,key _ (fun h1=>⟨_,rfl,jt ⟨HW bk lo x M b f H (m - 1),fun σ' H' h=>⟨m - 1,by lia,h⟩,?_⟩⟩) fun ga hga ega=>⟨_,rfl,gq ⟨_,rfl,?_⟩⟩⟩
  ·refine⟨_,rfl,_,rfl,_,rfl,_,rfl,b,f,la,_,_,_,rfl,SqL.of s3b,SqT.of s3f,SqT.of ela,fun D hD=>Jx (K:=K) (a:=b) (b:=f) (c:=la) (xs:=us0) (ys:=lo.map V.int) (vs:=(itF (hdF bk lo) x t).map V.int) (by rw[Pq,ol.1]; lia) (by rw[Pq,og.1]; lia)
    (fun i zs σ' H4=>(∃ u v w,σ'=[u,v,w,some (.ref la)])/\zs=((PL i).map fun i=>max (lo.getD i 0) (min ((itF (hdF bk lo) x t).getD i 0) (duF (itF (hdF bk lo) x t) 0 (bk.getD i [])))).map V.int/\aM H3 H4/\H4 D=some (.lst zs))
    ⟨⟨_,_,_,rfl⟩,rfl,au hD _,aj⟩ (fun i zs σ' H4 _ h=>⟨SqL.of (h.2.2.1 _ _ s3b),SqT.of (h.2.2.1 _ _ s3f),SqT.of (h.2.2.1 _ _ ela),h.2.2.2⟩) ?_ ?_⟩
   ·rintro i zs y1 y2 y3 p σ' H4 hx hy hv hp ⟨⟨u,v,w,rfl⟩,e1,sm,hDl⟩
    obtain⟨c,as,ps,rfl,hps,hc,l100,rps⟩:=rb.get hx
    obtain⟨l1,hl1,rfl⟩:=int_at hy
    obtain⟨g1,hg1,rfl⟩:=int_at hv
    have hi:=(List.getElem?_eq_some_iff.mp hx).1
    have gl:lo.getD i 0=l1:=by rw[Pz,hl1]; rfl
    have gg:(itF (hdF bk lo) x t).getD i 0=g1:=by rw[Pz,hg1]; rfl
    have gb:bk.getD i []=ps:=by rw[Pz,hps]; rfl
    have l01:=(dw ol (i:=i) (by lia)).1
    have llg:=olow i
    rw[gl] at l01
    rw[gl,gg] at llg
    generalize eH5:upd H4 p _=H5
    obtain⟨g5,e5⟩:=aH eH5 hp
    have s5:=sm.trans g5
    refine⟨p,_,rfl,SqT.of e5,rfl,_,_,rfl,_,_,rfl,_,_,rfl,rfl,?_⟩
    refine tT ?_
    refine⟨_,rfl,_,rfl,_,rfl,_,rfl,c,la,n,as,ps,_,l1,g1,rfl,(s3.trans s5) _ _ hc,l100,rps.bj (fun a xs q=>(s3.trans s5) a _ q),SqT.of (s5 _ _ ela),by rw[og.1]; lia,l01,llg,fun H6 s6=>?_⟩
    refine⟨s6 _ _ (g5 _ _ hDl),?_,⟨_,_,_,rfl⟩,?_,aF (s5.trans s6) hD _,aj⟩
    ·rw[e1,Pq,Pq,Qn]
     exact aD (by lia)
    ·rw[e1,Sw,PJ,PJ,gb.symm,← gl,← gg]
     rfl
   ·rintro zs σ' H4 ⟨_,e1,sm,hDl⟩
    refine⟨D,_,rfl,.inl ⟨SqL.of hDl,fun l hl'=>?_⟩⟩
    refine⟨t+1,l,.ref la,by lia,rfl,s3.trans (sm.trans (au hl' _)),?_,.inr ⟨la,t,rfl,rfl,au hl' _ _ _ (sm _ _ ela)⟩⟩
    rw[aj,e1,el]
    rfl
  ·subst hga
   exact q M ga H3 st s3 ega
section
variable {n:Nat} {fl lo:List Int} {bk:List (List Pl)}
theorem Ai (hb:bk.length=n) (ok:okB bk) (hf:okG n fl) (hlo:Low n fl bk lo) {x:List Int} (hx:okG n x) (l:LeG lo x) {c:List Nat} (hc:∀ i < n,i ∉ c->x.getD i 0=lo.getD i 0) (hup:∀ w,InS n fl bk lo c w->LeG w x) {m:Nat} (st:Stops (hdF bk lo) x m):Ez n fl bk lo c (itF (hdF bk lo) x m):=by
 obtain⟨h1,h2,h3⟩:=uT hb hlo.1 hx l m
 have fx:=st.1
 refine⟨⟨h1,fun i hi' hci=>?_,h2,?_⟩,fun w hw=>?_⟩
 ·have a:=h2 i
  have b:=h3 i
  rw[hc i hi' hci] at b
  lia
 ·refine iC (by rw[h1.1,(fK hb ok hf _).1]) fun i hi'=>?_
  rw[h1.1] at hi'
  have e:=o4 (bk:=bk) (lo:=lo) (g:=itF (hdF bk lo) x m) (i:=i) (by lia)
  rw[fx] at e
  rw[iY hb hf _ hi']
  have a:=iY hb hf lo hi'
  rw[hlo.2.1] at a
  have b:=m7 hb ok h2 hi'
  lia
 ·have:∀ j,LeG w (itF (hdF bk lo) x j):=by
   intro j
   induction j with
   | zero=>exact hup w hw
   | succ j ih=>exact wR hb ok hf hlo hw.1 hw.2.2.2 ih
  exact this m
theorem Li (hb:bk.length=n) (ok:okB bk) (hf:okG n fl) (hlo:Low n fl bk lo) (c:List Nat):∃ g,Ez n fl bk lo c g:=by
 have o9:okG n (Qd n (9:Int)):=⟨Rf,fun x hx=>by rw[(List.mem_replicate.mp hx).2]; decide⟩
 have r9:∀ i < n,(Qd n (9:Int)).getD i 0=9:=fun i hi=>by rw[Pz,TQ,if_pos hi]; rfl
 have up9:∀ w:List Int,okG n w->LeG w (Qd n (9:Int)):=fun w hw=>oH hw.1 o9.1 fun i hi=>by
  rw[r9 i hi]
  exact (dw hw hi).2
 have l:=up9 lo hlo.1
 obtain⟨m,_,st⟩:=xm hb hlo.1 (wQ hlo.1 o9 c) (K4 hlo.1 l c)
 exact⟨_,Fb hb ok hf hlo o9 l (fun w hw _=>up9 w hw) st⟩
open Classical in
def al (n:Nat) (fl:List Int) (bk:List (List Pl)) (lo:List Int) (c:List Nat):List Int:=if h:∃ g,Ez n fl bk lo c g then h.choose else lo
theorem dI (hb:bk.length=n) (ok:okB bk) (hf:okG n fl) (hlo:Low n fl bk lo) (c:List Nat):Ez n fl bk lo c (al n fl bk lo c):=by
 have h:=Li hb ok hf hlo c
 unfold al
 rw[dif_pos h]
 exact h.choose_spec
theorem J6 (hb:bk.length=n) (ok:okB bk) (hf:okG n fl) (hlo:Low n fl bk lo) {c:List Nat} {g:List Int} (h:Ez n fl bk lo c g):g=al n fl bk lo c:=h.uniq (dI hb ok hf hlo c)
theorem InS.mono {c d:List Nat} {g:List Int} (h:InS n fl bk lo c g) (s:∀ i < n,i∈c->i∈d):InS n fl bk lo d g:=⟨h.1,fun i hi hd=>h.2.1 i hi fun z=>hd (s i hi z),h.2.2⟩
theorem vm (hb:bk.length=n) (ok:okB bk) (hf:okG n fl) (hlo:Low n fl bk lo) {c d:List Nat} (s:∀ i < n,i∈c->i∈d):LeG (al n fl bk lo c) (al n fl bk lo d):=(dI hb ok hf hlo d).2 _ ((dI hb ok hf hlo c).1.mono s)
theorem ie (hb:bk.length=n) (ok:okB bk) (hf:okG n fl) (hlo:Low n fl bk lo) (c:List Nat):(al n fl bk lo c).length=n:=(dI hb ok hf hlo c).1.1.1
def ris (n:Nat) (lo g:List Int):List Nat:=(PL n).filter fun i=>decide (lo.getD i 0 < g.getD i 0)
theorem gj {g:List Int} {i:Nat}:i∈ris n lo g ↔ i < n/\lo.getD i 0 < g.getD i 0:=by
 unfold ris
 rw[VB,List.mem_range]
 simp
theorem uO {c:List Nat} {g:List Int} (h:InS n fl bk lo c g) {i:Nat} (hi:i∈ris n lo g):i∈c:=by
 obtain⟨h1,h2⟩:=gj.mp hi
 refine UW fun z=>?_
 have:=h.2.1 i h1 z
 lia
theorem IK {c:List Nat} {g:List Int} (h:InS n fl bk lo c g):InS n fl bk lo (ris n lo g) g:=by
 refine⟨h.1,fun i hi hn=>?_,h.2.2⟩
 have a:=h.2.2.1 i
 have b:¬ lo.getD i 0 < g.getD i 0:=fun z=>hn (gj.mpr ⟨hi,z⟩)
 lia
theorem zY (hb:bk.length=n) (ok:okB bk) (hf:okG n fl) (hlo:Low n fl bk lo) (c:List Nat):al n fl bk lo (ris n lo (al n fl bk lo c))=al n fl bk lo c:=by
 have m:=dI hb ok hf hlo c
 refine fD (by rw[ie hb ok hf hlo,ie hb ok hf hlo]) (vm hb ok hf hlo fun i hi=>uO m.1) ?_
 exact (dI hb ok hf hlo _).2 _ (IK m.1)
theorem Je (hb:bk.length=n) (ok:okB bk) (hf:okG n fl) (hlo:Low n fl bk lo) {c:List Nat} (h:ris n lo (al n fl bk lo c)=[]):al n fl bk lo c=lo:=by
 have m:=dI hb ok hf hlo c
 refine fD (by rw[ie hb ok hf hlo,hlo.1.1]) (oH (ie hb ok hf hlo c) hlo.1.1 fun i hi=>?_) m.1.2.2.1
 have:i ∉ ris n lo (al n fl bk lo c):=by rw[h]; simp
 have h':¬ lo.getD i 0 < (al n fl bk lo c).getD i 0:=fun z=>this (gj.mpr ⟨hi,z⟩)
 lia
theorem G4:ris n lo lo=[]:=by
 unfold ris
 rw[List.filter_eq_nil_iff]
 intro i _
 simp
theorem mC {g:List Int} {one:Nat} (hg:g.length=n) (hl:lo.length=n):ris n lo (lfF g lo [one])=(ris n lo g).filter fun i=>decide (i≠one):=by
 unfold ris
 rw[List.filter_filter]
 refine Wc fun i hi=>?_
 have hi':=List.mem_range.mp hi
 rw[mL (by rw[hg]; exact hi')]
 by_cases e:i=one
 ·subst e
  simp
 ·simp [e]
theorem vI (hb:bk.length=n) (ok:okB bk) (hf:okG n fl) (hlo:Low n fl bk lo) {c:List Nat} (hcl:ris n lo (al n fl bk lo c)=c) {one:Nat} {m:Nat} (st:Stops (hdF bk lo) (lfF (al n fl bk lo c) lo [one]) m) :
  itF (hdF bk lo) (lfF (al n fl bk lo c) lo [one]) m=al n fl bk lo (c.filter fun i=>decide (i≠one)):=by
 have mx:=dI hb ok hf hlo c
 have lg:=ie hb ok hf hlo c
 have ox:okG n (lfF (al n fl bk lo c) lo [one]):=wQ mx.1.1 hlo.1 [one]
 have at1:∀ i < n,(lfF (al n fl bk lo c) lo [one]).getD i 0=if i∈[one] then lo.getD i 0 else (al n fl bk lo c).getD i 0:=fun i hi=>mL (by rw[lg]; exact hi)
 have lx:LeG lo (lfF (al n fl bk lo c) lo [one]):=oH hlo.1.1 ox.1 fun i hi=>by
  rw[at1 i hi]
  split
  ·exact Rx _
  ·exact mx.1.2.2.1 i
 refine J6 hb ok hf hlo (Ai hb ok hf hlo ox lx (fun i hi hn=>?_) (fun w hw=>?_) st)
 ·rw[at1 i hi]
  split
  ·rfl
  ·rename_i hne
   have:i ∉ c:=fun z=>hn (List.mem_filter.mpr ⟨z,decide_eq_true fun q=>hne (by rw[q]; exact List.mem_singleton.mpr rfl)⟩)
   exact mx.1.2.1 i hi this
 ·refine oH hw.1.1 ox.1 fun i hi=>?_
  rw[at1 i hi]
  split
  ·rename_i he
   rw[hw.2.1 i hi (fun z=>by
    have:=(List.mem_filter.mp z).2
    rw[List.mem_singleton.mp he] at this
    simp at this)]
   exact Rx _
  ·exact (mx.2 w (hw.mono fun i _ z=>(List.mem_filter.mp z).1)) i
def Knot (n:Nat) (fl:List Int) (bk:List (List Pl)) (lo:List Int) (c:List Nat):Prop:=al n fl bk lo c≠lo/\∀ one∈c,al n fl bk lo (c.filter fun i=>decide (i≠one))=lo
theorem wH (hb:bk.length=n) (ok:okB bk) (hf:okG n fl) (hlo:Low n fl bk lo) {c:List Nat} (hk:Knot n fl bk lo c) {i:Nat} (hi:i∈c):i∈ris n lo (al n fl bk lo c):=by
 refine UW fun z=>hk.1 ?_
 rw[← zY hb ok hf hlo c]
 have le:LeG (al n fl bk lo (ris n lo (al n fl bk lo c))) lo:=by
  have h0:LeG (al n fl bk lo (ris n lo (al n fl bk lo c))) (al n fl bk lo (c.filter fun j=>decide (j≠i))):=vm hb ok hf hlo fun j hj hr=>List.mem_filter.mpr ⟨uO (dI hb ok hf hlo c).1 hr,decide_eq_true (p:=j≠i) fun q=>z (q▸hr)⟩
  rw[hk.2 i hi] at h0
  exact h0
 exact fD (by rw[ie hb ok hf hlo,hlo.1.1]) le (dI hb ok hf hlo _).1.2.2.1
end
theorem km {p:Nat->Bool} (i:Nat):(PL (i+1)).filter p=(PL i).filter p++if p i=true then [i] else []:=by
 rw[Sw,V6,Ss,List.filter_nil]
theorem d8 (p:Nat->Bool):∀ n,(PL n).filter p∈cO n
 | 0=>List.mem_singleton.mpr rfl
 | n+1=>by
  rw[km]
  have ih:=d8 p n
  show _∈cO n++(cO n).map fun c=>c++[n]
  by_cases e:p n=true
  ·rw[if_pos e]
   exact List.mem_append.mpr (.inr (List.mem_map.mpr ⟨_,ih,rfl⟩))
  ·rw[if_neg e,Sx]
   exact List.mem_append.mpr (.inl ih)
theorem dM:∀ n,(cO n).length=2 ^ n
 | 0=>rfl
 | n+1=>by
  show (cO n++(cO n).map fun c=>c++[n]).length=_
  rw[Qf,Pq,dM n,Nat.pow_succ]
  lia
theorem cV {α:Type} [DecidableEq α]:∀ {l m:List α},l.Nodup->(∀ a∈l,a∈m)->l.length<=m.length
 | [],_,_,_=>Qw _
 | a::l,m,nd,h=>by
  have ha:=h a PN
  obtain⟨na,nl⟩:=List.nodup_cons.mp nd
  have:=cV (m:=m.erase a) nl fun b hb=>(WR fun z=>na (by rw[← z]; exact hb)).mpr (h b (Qc _ hb))
  rw[Wh ha] at this
  have:0 < m.length:=List.length_pos_of_mem ha
  rw[Qk]
  lia
theorem di {n:Nat} {c:List Nat} (hr:c.Pairwise (· < ·)) (hn:∀ i∈c,i < n):(PL n).filter (fun i=>decide (i∈c))=c:=by
 have s1:((PL n).filter fun i=>decide (i∈c)).Pairwise (· < ·):=List.pairwise_lt_range.filter _
 have m:∀ i,i∈(PL n).filter (fun i=>decide (i∈c)) ↔ i∈c:=fun i=>by
  rw[VB,List.mem_range]
  simp
  exact hn i
 generalize (PL n).filter (fun i=>decide (i∈c))=d at *
 clear hn
 induction d generalizing c with
 | nil =>
  cases c with
  | nil=>rfl
  | cons x c=>exact absurd ((m x).mpr PN) (by simp)
 | cons y d ih =>
  cases c with
  | nil=>exact absurd ((m y).mp PN) (by simp)
  | cons x c =>
   rw[RX] at s1 hr
   have hxy:y=x:=by
    rcases List.mem_cons.mp ((m y).mp PN) with h | h
    ·exact h
    ·rcases List.mem_cons.mp ((m x).mpr PN) with h' | h'
     ·exact h'.symm
     ·have:=hr.1 y h
      have:=s1.1 x h'
      lia
   subst hxy
   refine congrArg _ (ih hr.2 s1.2 fun i=>⟨fun h=>?_,fun h=>?_⟩)
   ·rcases List.mem_cons.mp ((m i).mp (Qc _ h)) with z | z
    ·have:=s1.1 i h
     lia
    ·exact z
   ·rcases List.mem_cons.mp ((m i).mpr (Qc _ h)) with z | z
    ·have:=hr.1 i h
     lia
    ·exact z
section
variable {n:Nat} {fl lo:List Int} {bk:List (List Pl)}
theorem j4 (g:List Int):(ris n lo g).Pairwise (· < ·):=List.pairwise_lt_range.filter _
theorem yU (hb:bk.length=n) (ok:okB bk) (hf:okG n fl) (hlo:Low n fl bk lo) {S:List (List Nat)} (cl:∀ c∈S,ris n lo (al n fl bk lo c)=c) {W:List Nat} (hW:W∈S) (top:∀ c:List Nat,∀ i∈ris n lo (al n fl bk lo c),i∈W)
  (step:∀ c∈S,c≠[]->∀ one∈c,ris n lo (al n fl bk lo (c.filter fun i=>decide (i≠one)))∈S) {k:List Nat} (hr:k.Pairwise (· < ·)) (hn:∀ i∈k,i < n) (hk:Knot n fl bk lo k):k∈S:=by
 have main:∀ (m:Nat) (c:List Nat),c.length<=m->c∈S->(∀ i∈k,i∈c)->k∈S:=by
  intro m
  induction m with
  | zero =>
   intro c hl hc hs
   have:c=[]:=List.length_eq_zero_iff.mp (by lia)
   subst this
   have:k=[]:=by
    cases k with
    | nil=>rfl
    | cons x _=>exact absurd (hs x PN) (by simp)
   rw[this]
   exact hc
  | succ m ih =>
   intro c hl hc hs
   by_cases e:∀ i∈c,i∈k
   ·have hcr:c.Pairwise (· < ·):=by rw[← cl c hc]; exact j4 _
    have hcn:∀ i∈c,i < n:=fun i hi=>by rw[← cl c hc] at hi; exact (gj.mp hi).1
    have:k=c:=by
     rw[← di hr hn,← di hcr hcn]
     refine Wc fun i _=>decide_eq_decide.mpr ⟨fun h=>?_,fun h=>?_⟩
     ·exact hs i (by simpa using h)
     ·exact e i (by simpa using h)
    rw[this]
    exact hc
   ·have ⟨one,h1,h2⟩:∃ one,one∈c/\one ∉ k:=by
     refine UW fun z=>e fun i hi=>UW fun q=>z ⟨i,hi,q⟩
    have c0:c≠[]:=fun z=>by rw[z] at h1; cases h1
    have mem:=step c hc c0 one h1
    have sub:∀ i∈ris n lo (al n fl bk lo (c.filter fun i=>decide (i≠one))),i∈c.filter fun i=>decide (i≠one):=fun i hi=>uO (dI hb ok hf hlo _).1 hi
    have ndr:(ris n lo (al n fl bk lo (c.filter fun i=>decide (i≠one)))).Nodup:=(j4 _).imp fun h=>Qq h
    have l1:=cV ndr sub
    have l2:(c.filter fun i=>decide (i≠one)).length < c.length:=by
     rw[List.length_filter_lt_length_iff_exists]
     exact⟨one,h1,by simp⟩
    refine ih _ (by lia) mem fun i hi=>?_
    have a:=wH hb ok hf hlo hk hi
    obtain⟨a1,a2⟩:=gj.mp a
    have b:=vm hb ok hf hlo (c:=k) (d:=c.filter fun i=>decide (i≠one)) (fun j _ hj=>List.mem_filter.mpr ⟨hs j hj,decide_eq_true fun q=>h2 (q▸hj)⟩) i
    exact gj.mpr ⟨a1,by lia⟩
 refine main W.length W (PK _) hW fun i hi=>top k i (wH hb ok hf hlo hk hi)
end
abbrev pJ:Stmt:=top 23
theorem CV:aX ["sure","giving"] ["sure","giving"] (aJ pJ):=⟨rfl,rfl,rfl,by decide+kernel,rfl,by decide+kernel,by decide+kernel⟩
inductive tH (vs:List V) (H:Hp) (Q:VK):Prop where
 | mk (f g:Addr) (n:Nat) (lo x:List Int) (z0:vs=[.ref f,.ref g]) (z1:n<=12) (z2:H f=some (.tup (lo.map V.int))) (z3:okG n lo) (z4:H g=some (.tup (x.map V.int))) (z5:okG n x) (z6:∀ (r:Addr) (H':Hp),aM H H'->H' r=some (.tup ((ris n lo x).map vN))->Q (.ref r) H'):tH  vs H Q
def pM:Sp:=fun vs H Q _=>tH  vs H Q
theorem Ac (F:Fun K "risers" "risers" pJ f fd) (B:Bt mg) :
  eX P w K mg base CX0 1 f fd ["sure","giving"] pM:=by
 refine F.ok CV (fun vs H Q E h=>?_) (fun cdv A outer s H vs Q E hr h=>?_)
 ·obtain⟨f,g,n,lo,x,rfl,_⟩:=h
  rfl
 ·obtain⟨f,g,n,lo,y,rfl,b12,hf,ol,hg,oy,q⟩:=h
  refine⟨_,(aC (aL (bG (r:=fB K) bB rfl B.tuple_ bV (aa (bA (L:=["one","step"]) (F:=["sure"]) (cap:=[0]) rfl (bu rfl rfl (by kernel_rfl)) (qL rfl B.enumerate_ (aa (pv 1) aq)) (fun _ _ _ _ _=>(eE (K:=K) 2 rfl rfl (aZ (aG (i:=0) (aO (by decide+kernel)) rfl (Qi rfl)) (aZ (aG (i:=1) (aO (by decide+kernel)) rfl (Qi rfl)) dR)))) (fun _ _ _ _ _=>(vp (aV vH (pv 1) (bh (r:=jN K) bW (pv 2) (pv 0) (fun _ _=>rfl)) (bf _)))) (fun _ _ _ _ _=>(pv 0))) aq)))),?_⟩
  refine⟨_,rfl,g,_,rfl,SqT.of hg,fun D hD=>jZ (K:=K) (a:=g) (xs:=y.map V.int) (fun i zs σ' H3=>(∃ u v,σ'=[u,v,some (.ref f)])/\aM H H3/\H3 D=some (.lst zs)/\zs=((PL i).filter fun j=>decide (lo.getD j 0 < y.getD j 0)).map vN)
   ⟨⟨_,_,rfl⟩,au hD _,aj,rfl⟩ (fun i zs σ' H3 _ h=>⟨SqT.of (h.2.1 _ _ hg),h.2.2.1⟩) ?_ ?_⟩
  ·rintro i zs x p σ' H3 hx hp ⟨⟨u,v,rfl⟩,sm,eD,ez⟩
   obtain⟨y1,hy1,rfl⟩:=int_at hx
   have hin:=(List.getElem?_eq_some_iff.mp hy1).1
   generalize eH4:upd H3 p _=H4
   obtain⟨g4,e4⟩:=aH eH4 hp
   have s4:=sm.trans g4
   refine⟨p,_,rfl,SqT.of e4,rfl,_,_,rfl,_,_,rfl,rfl,?_⟩
   have hih:i < lo.length:=by rw[ol.1,← oy.1]; exact hin
   have gy:y.getD i 0=y1:=by rw[Pz,hy1]; rfl
   have gi:lo.getD i 0=lo[i]:=by rw[Pz,Px hih]; rfl
   have lz:zs.length<=i:=by
    rw[ez,Pq]
    exact Q0 (Tc _ _) (by rw[Qn]; exact PK _)
   have l12:i<=12:=by have:=oy.1; lia
   refine⟨_,rfl,_,rfl,_,rfl,f,_,_,_,rfl,rfl,SqT.of (s4 _ _ hf),o5 hih,_,_,rfl,rfl,_,rfl,?_⟩
   by_cases c1:y1 > lo[i]
   ·rw[decide_eq_true c1]
    refine jt ⟨_,rfl,g4 _ _ eD,aD (by lia),⟨_,_,rfl⟩,aF s4 hD _,aj,?_⟩
    rw[km,if_pos (by rw[gy,gi]; exact decide_eq_true c1),PJ,← ez]
    rfl
   ·rw[decide_eq_false c1]
    refine gq ⟨⟨_,_,rfl⟩,s4,g4 _ _ eD,?_⟩
    rw[km,if_neg (by rw[gy,gi]; simp only[decide_eq_true_eq]; exact c1),Sx]
    exact ez
  ·rintro zs σ' H3 ⟨_,sm,eD,rfl⟩
   refine⟨D,_,rfl,.inl ⟨SqL.of eD,fun l hl'=>?_⟩⟩
   refine q l _ (sm.trans (au hl' _)) ?_
   rw[aj,Pq,oy.1]
   rfl
def kc (c:List Nat):List Key:=c.map fun i:Nat=>(Wt (i:Int):Key)
theorem M5 (c:List Nat):(kc c).map kV=c.map vN:=by
 unfold kc
 rw[RL]
 rfl
theorem K1 {c d:List Nat} (h:kc c=kc d):c=d:=by
 unfold kc at h
 exact (Xa fun a b e=>by
  have:(a:Int)=(b:Int):=Sum.inl.inj e
  lia).mp h
def ux (n:Nat) (fl:List Int) (bk:List (List Pl)) (lo:List Int) (H:Hp) (kvs:List (List Key × V)):Prop :=
 (kvs.map (·.1)).Nodup/\∀ p∈kvs,∃ (c:List Nat) (a:Addr),c∈cO n/\p.1=kc c/\p.2 = .ref a/\H a=some (.tup ((al n fl bk lo c).map V.int))
section
variable {n:Nat} {fl lo:List Int} {bk:List (List Pl)} {H H':Hp} {kvs:List (List Key × V)}
theorem ux.bj (h:ux n fl bk lo H kvs) (e:∀ a xs,H a=some (HO.tup xs)->H' a=some (HO.tup xs)):ux n fl bk lo H' kvs :=
 ⟨h.1,fun p hp=>by
  obtain⟨c,a,h1,h2,h3,h4⟩:=h.2 p hp
  exact⟨c,a,h1,h2,h3,e _ _ h4⟩⟩
theorem ux.len (h:ux n fl bk lo H kvs):kvs.length<=2 ^ n:=by
 have:=cV (m:=(cO n).map kc) h.1 fun k hk=>by
  obtain⟨p,hp,rfl⟩:=List.mem_map.mp hk
  obtain⟨c,a,h1,h2,_⟩:=h.2 p hp
  rw[h2]
  exact List.mem_map.mpr ⟨c,h1,rfl⟩
 rw[Pq,Pq,dM] at this
 exact this
theorem ux.get (h:ux n fl bk lo H kvs) {c:List Nat} {v:V} (e:iK kvs (kc c)=some v):∃ a,v = .ref a/\H a=some (.tup ((al n fl bk lo c).map V.int)):=by
 unfold iK at e
 obtain⟨p,hp,rfl⟩:=Option.map_eq_some_iff.mp e
 obtain⟨c',a,_,h2,h3,h4⟩:=h.2 p (List.mem_of_find?_eq_some hp)
 have k1:p.1=kc c:=by simpa using List.find?_some hp
 have:c'=c:=K1 (by rw[← h2,k1])
 subst this
 exact⟨a,h3,h4⟩
theorem ux.put (h:ux n fl bk lo H kvs) {c:List Nat} (hc:c∈cO n) {a:Addr} (ha:H a=some (.tup ((al n fl bk lo c).map V.int))) (e:iK kvs (kc c)=none):ux n fl bk lo H (putK kvs (kc c) (.ref a)):=by
 rw[lZ _ e]
 refine⟨?_,fun p hp=>?_⟩
 ·rw[PJ]
  show (_++[kc c]).Nodup
  refine List.nodup_append.mpr ⟨h.1,by simp,fun x hx y hy=>?_⟩
  rw[List.mem_singleton.mp hy]
  obtain⟨p,hp,rfl⟩:=List.mem_map.mp hx
  intro z
  unfold iK at e
  have:=List.find?_eq_none.mp (Option.map_eq_none_iff.mp e) p hp
  exact this (decide_eq_true z)
 ·rcases List.mem_append.mp hp with z | z
  ·exact h.2 p z
  ·rw[List.mem_singleton.mp z]
   exact⟨c,a,hc,rfl,rfl,ha⟩
end
theorem mG {H:Hp} {D:Addr} {k:List (List Key × V)} {o:HO} (h:H D=some (.dT k)):∀ a xs,H a=some (HO.tup xs)->upd H D o a=some (HO.tup xs):=fun a xs q=>by
 rw[bx (fun z=>by rw[z,h] at q; cases q)]
 exact q
abbrev mV:Stmt:=top 24
theorem gB:aX ["book","sure","giving","known","rows","one","start","crowd"] ["book","sure","giving","known"] (aJ mV):=⟨rfl,rfl,rfl,by decide+kernel,rfl,by decide+kernel,by decide+kernel⟩
def wo (c:List Nat) (one:Nat):List Nat:=c.filter fun i=>decide (i≠one)
inductive rZ (vs:List V) (H:Hp) (Q:VK):Prop where
 | mk (b f g d:Addr) (n:Nat) (bk:List (List Pl)) (fl lo:List Int) (c:List Nat) (kvs:List (List Key × V)) (H0:Hp) (z0:vs=[.ref b,.ref f,.ref g,.ref d]) (z1:n<=12) (z2:aM H0 H) (z3:H0 d=none) (z4:nZ n H0 b bk) (z5:bk.length=n) (z6:okG n fl) (z7:H0 f=some (.tup (lo.map V.int))) (z8:Low n fl bk lo) (z9:H g=some (.tup ((al n fl bk lo c).map V.int))) (z10:ris n lo (al n fl bk lo c)=c) (z11:H d=some (.dT kvs)) (z12:ux n fl bk lo H kvs) (z13:∀ (r:Addr) (us:List V) (kvs':List (List Key × V)) (H':Hp),aM H0 H'->(∀ a o,a≠d->H a=some o->H' a=some o)->H r=none->H' r=some (.lst us)->fu H' us (c.map fun one=>al n fl bk lo (wo c one))->H' d=some (.dT kvs')->ux n fl bk lo H' kvs'->Q (.ref r) H'):rZ  vs H Q
def xT:Sp:=fun vs H Q _=>rZ  vs H Q
theorem yO {k:Nat} (F:Fun K "put_off" "put_off" mV f fd) (B:Bt mg)
  (D_risers:Df P w K mg base "risers" 1 ["sure","giving"] pM) (D_lifted:Df P w K mg base "lifted" 1 ["giving","high","crowd"] Gw) (D_held:Df P w K mg base "held" (k+1) ["book","sure","giving"] Gi) :
  eX P w K mg base CX0 (k+2) f fd ["book","sure","giving","known"] xT:=by
 refine F.ok gB (fun vs H Q E h=>?_) (fun cdv A outer s H vs Q E hr h=>?_)
 ·obtain⟨b,f,g,d,n,bk,fl,lo,c,kvs,H0,rfl,_⟩:=h
  rfl
 ·obtain⟨b,f,g,d,n,bk,fl,lo,c,kvs0,H0,rfl,n12,s0,d0,hB,lb,of,hf,low,hg,hcl,hd,kn,q⟩:=h
  refine⟨_,(aA (aR (i:=4) gB.nd rfl (Qi rfl) (bK aq))
 (aA (gK Ro rfl (iM (aY D_risers hr (aa (pv 1) (aa (pv 2) aq)))) (aG (i:=5) gB.nd rfl (Qi rfl)) (aA (aR (i:=6) gB.nd rfl (Qi rfl) (aY D_lifted hr (aa (pv 2) (aa (pv 1) (aa (bK (aa (pv 5) aq)) aq)))))
 (aA (aR (i:=7) gB.nd rfl (Qi rfl) (aY D_risers hr (aa (pv 1) (aa (pv 6) aq))))
 (aA (cg (Ba (rn hr.rY (pv 7) (pv 3))) (aC (zP hr.rY (pv 3) (pv 7) (aY D_held hr (aa (pv 0) (aa (pv 1) (aa (pv 6) aq)))) rfl)) aW)
 (aC (gk (jX QB Rm Rk cM (pv 4) (aa (JX hr.rY (pv 3) (pv 7) (fun _ _=>rfl)) aq))))))))
 (aC (aL (pv 4))))),?_⟩
  have okb:=hB.okB
  have oc:okG n (al n fl bk lo c):=(dI lb okb of low c).1.1
  have p12:2 ^ n<=4096:=by
   have:2 ^ n<=2 ^ 12:=Vu (by decide) n12
   simpa using this
  have cn:∀ i∈c,i < n:=fun i hi=>by rw[← hcl] at hi; exact (gj.mp hi).1
  have c12:c.length<=12:=by
   rw[← hcl]
   exact Q0 (Tc _ _) (by rw[Qn]; exact n12)
  refine⟨small (by show 0<=1000; decide),fun R hR=>?_⟩
  generalize eHa:upd H R _=Ha
  obtain⟨ga,ea⟩:=aH eHa hR
  have nRd:R≠d:=fun z=>by rw[z,hd] at hR; cases hR
  refine⟨_,rfl,_,rfl,f,g,n,lo,_,rfl,n12,(s0.trans ga) _ _ hf,low.1,ga _ _ hg,oc,fun ra H1 s1 era=>?_⟩
  rw[hcl] at era
  have sa1:=ga.trans s1
  have s01:=s0.trans sa1
  have R0:H0 R=none:=s0.free hR
  refine⟨ra,rfl,⟨_,SqT.of era⟩,u0 (K:=K) (a:=ra) (xs:=c.map vN) (fun i σ Hx=>∃ (us:List V) (kvs:List (List Key × V)) (u5 u6 u7:Option V),σ=[some (.ref b),some (.ref f),some (.ref g),some (.ref d),some (.ref R),u5,u6,u7]/\aM H0 Hx/\(∀ a o,a≠d->a≠R->H1 a=some o->Hx a=some o)/\Hx R=some (.lst us)/\Hx d=some (.dT kvs)/\ux n fl bk lo Hx kvs/\fu Hx us ((c.take i).map fun one=>al n fl bk lo (wo c one)))
   ⟨[],kvs0,_,_,_,rfl,s01,fun a o _ _ e=>e,s1 _ _ ea,sa1 _ _ hd,kn.bj fun a xs e=>sa1 _ _ e,by rw[Rt]; exact .nil⟩ (fun i σ Hx _ h=>?_) ?_ ?_⟩
  ·obtain⟨_,_,_,_,_,_,_,kb,_⟩:=h
   exact SqT.of (kb _ _ (fun z=>by have:=sa1 _ _ hd; rw[← z,era] at this; cases this) (fun z=>by have:=s1 _ _ ea; rw[← z,era] at this; cases this) era)
  ·rintro i x σ Hx hx ⟨us,kvs,u5,u6,u7,rfl,sx,kb,eR,ed,kx,gx⟩
   obtain⟨one,hone,rfl⟩:=rT hx
   have onen:=cn one (Qu hone)
   refine gN ?_
   have gxH:Hx g=some (.tup ((al n fl bk lo c).map V.int)):=kb _ _ (fun z=>by rw[z,hd] at hg; cases hg) (fun z=>by rw[z,hR] at hg; cases hg) (sa1 _ _ hg)
   have lus:=gx.length
   rw[Pq,Qh] at lus
   have ox:=wQ oc low.1 [one]
   refine bw (fun σ Hc=>∃ a4:Addr,σ=[some (.ref b),some (.ref f),some (.ref g),some (.ref d),some (.ref R),some (vN one),some (.ref a4),u7]/\aM Hx Hc/\Hc a4=some (.tup ((lfF (al n fl bk lo c) lo [one]).map V.int))) ?qs ?ts
   case ts =>
    intro N Rc
    refine⟨_,rfl,_,rfl,_,rfl,small (by show 1<=1000; decide),fun p3 h3=>?_⟩
    generalize eHb:upd Hx p3 _=Hb
    obtain⟨gb,eb⟩:=aH eHb h3
    exact⟨g,f,p3,_,lo,[one],rfl,gb _ _ gxH,(sx.trans gb) _ _ hf,eb,by rw[oc.1,low.1.1],by rw[oc.1]; lia,fun a4 Hc sc e4=>Rc _ _ ⟨a4,rfl,gb.trans sc,e4⟩⟩
   case qs =>
   rintro σ Hc ⟨a4,rfl,sxc,e4⟩
   refine bw (fun σ Hd=>∃ a5:Addr,σ=[some (.ref b),some (.ref f),some (.ref g),some (.ref d),some (.ref R),some (vN one),some (.ref a4),some (.ref a5)]/\aM Hc Hd/\Hd a5=some (.tup ((wo c one).map vN))) ?qc ?tc
   case tc =>
    intro N Rc
    refine⟨_,rfl,_,rfl,f,a4,n,lo,_,rfl,n12,(sx.trans sxc) _ _ hf,low.1,e4,ox,fun a5 Hd sd e5=>?_⟩
    rw[mC oc.1 low.1.1,hcl] at e5
    exact Rc _ _ ⟨a5,rfl,sd,e5⟩
   case qc =>
   rintro σ Hd ⟨a5,rfl,sd,e5⟩
   have sxd:=sxc.trans sd
   have hcr:wo c one∈cO n:=by
    have:=d8 (fun i=>decide (lo.getD i 0 < (lfF (al n fl bk lo c) lo [one]).getD i 0)) n
    have e:ris n lo (lfF (al n fl bk lo c) lo [one])=wo c one:=by rw[mC oc.1 low.1.1,hcl]; rfl
    rw[← e]
    exact this
   have e5k:Hd a5=some (.tup ((kc (wo c one)).map kV)):=by rw[M5]; exact e5
   refine bw (fun σ He=>∃ (kvs:List (List Key × V)) (ao:Addr),σ=[some (.ref b),some (.ref f),some (.ref g),some (.ref d),some (.ref R),some (vN one),some (.ref a4),some (.ref a5)]/\aM H0 He/\(∀ a o,a≠d->Hd a=some o->He a=some o)/\He d=some (.dT kvs)/\ux n fl bk lo He kvs/\iK kvs (kc (wo c one))=some (.ref ao)/\He ao=some (.tup ((al n fl bk lo (wo c one)).map V.int))) ?q1 ?t1
   case t1 =>
    intro N Rc
    have edd:=sxd _ _ ed
    refine⟨_,rfl,_,rfl,d,iK kvs (kc (wo c one)),rfl,Du.t edd e5k,_,rfl,?_⟩
    cases hv:iK kvs (kc (wo c one)) with
    | some v =>
     obtain⟨ao,rfl,eao⟩:=kx.get hv
     exact gq (Rc _ _ ⟨kvs,ao,rfl,sx.trans sxd,fun a o _ e=>e,edd,kx.bj fun a xs e=>sxd _ _ e,hv,sxd _ _ eao⟩)
    | none =>
     refine jt ⟨_,rfl,_,rfl,_,rfl,b,f,a4,n,bk,lo,_,rfl,hB.mono (sx.trans sxd),lb,(sx.trans sxd) _ _ hf,low.1,sd _ _ e4,ox,?_,fun m r He st se er=>?_⟩
     ·refine oH low.1.1 ox.1 fun j hj=>?_
      rw[mL (by rw[oc.1]; exact hj)]
      split
      ·exact Rx _
      ·exact (dI lb okb of low c).1.2.2.1 j
     rw[vI lb okb of low hcl st] at er
     have ede:=se _ _ edd
     have kxe:=kx.bj fun a xs e=>(sxd.trans se) _ _ e
     refine⟨_,rfl,_,rfl,d,_,rfl,Kh.t ede (se _ _ e5k) (Uc kx.len (Uc p12 (by decide))),?_⟩
     refine Rc _ _ ⟨_,r,rfl,aF ((sx.trans sxd).trans se) d0 _,fun a o na e=>by rw[bx na]; exact se _ _ e,aj,(kxe.put hcr er hv).bj (mG ede),by rw[DR,if_pos rfl],mG ede _ _ er⟩
   case q1 =>
   rintro σ He ⟨kvs',ao,rfl,s0e,kbe,ede,kne,hv,eao⟩
   have eRe:He R=some (.lst us):=kbe _ _ nRd (sxd _ _ eR)
   have e5e:He a5=some (.tup ((kc (wo c one)).map kV)):=kbe _ _ (fun z=>by have:=sxd _ _ ed; rw[← z,e5] at this; cases this) e5k
   refine⟨_,rfl,.inl ⟨rfl,_,SqL.of eRe⟩,_,rfl,_,rfl,d,_,rfl,hv▸Du.t ede e5e,R,us,_,rfl,rfl,eRe,aD (by lia),?_⟩
   refine⟨us++[.ref ao],kvs',_,_,_,rfl,aF s0e R0 _,fun a o na nr e=>by rw[bx nr]; exact kbe _ _ na (sxd _ _ (kb _ _ na nr e)),aj,by rw[bx nRd.symm]; exact ede,kne.bj (bR eRe),?_⟩
   rw[Qz,hone,PJ]
   have gxe:fu He us ((c.take i).map fun one=>al n fl bk lo (wo c one)):=gx.bj fun a xs e=>kbe _ _ (fun z=>by rw[z,ed] at e; cases e) (sxd _ _ e)
   exact (fu.snoc eao (by rw[ie lb okb of low]; lia) gxe).bj (bR eRe)
  ·rintro σ Hx ⟨us,kvs,u5,u6,u7,rfl,sx,kb,eR,ed,kx,gx⟩
   rw[Pq,Qg] at gx
   exact⟨_,rfl,q R us kvs Hx sx (fun a o na e=>kb a o na (fun z=>by rw[z,hR] at e; cases e) (sa1 _ _ e)) hR eR gx ed kx⟩
def kg (g:List Int):List Key:=g.map fun i:Int=>(Wt i:Key)
theorem Jc (g:List Int):(kg g).map kV=g.map V.int:=by
 unfold kg
 rw[RL]
 rfl
theorem G3 {c d:List Int} (h:kg c=kg d):c=d:=by
 unfold kg at h
 exact (Xa fun a b e=>by
  have:a=b:=Sum.inl.inj e
  exact this).mp h
theorem fu.Gq {H:Hp}:∀ {us:List V} {gs:List (List Int)} {g:List Int},fu H us (gs++[g])->∃ (us':List V) (a:Addr),us=us'++[.ref a]/\fu H us' gs/\H a=some (.tup (g.map V.int))
 | _,[],_,.cons h l .nil=>⟨[],_,rfl,.nil,h⟩
 | _,x::gs,g,.cons h l r=>by
  obtain⟨us',a,e,r',ha⟩:=fu.Gq (gs:=gs) r
  exact⟨_::us',a,by rw[e]; rfl,.cons h l r',ha⟩
inductive LF (H0 H:Hp):List V->List (List Nat)->Prop where
 | nil:LF H0 H [] []
 | cons {a:Addr} {c:List Nat} {us:List V} {cs:List (List Nat)}:H a=some (.lst (c.map vN))->H0 a=none->LF H0 H us cs->LF H0 H (.ref a::us) (c::cs)
section
variable {n:Nat} {fl lo hi:List Int} {bk:List (List Pl)}
theorem wY (hb:bk.length=n) (ok:okB bk) (hf:okG n fl) (hlo:Low n fl bk lo):al n fl bk lo []=lo:=by
 have m:=dI hb ok hf hlo []
 refine fD (by rw[ie hb ok hf hlo,hlo.1.1]) (oH (ie hb ok hf hlo []) hlo.1.1 fun i hi=>?_) m.1.2.2.1
 rw[m.1.2.1 i hi (by simp)]
 exact Rx _
theorem Mh (hb:bk.length=n) (ok:okB bk) (hf:okG n fl) (hlo:Low n fl bk lo) (oh:okG n hi) (fx:eV hi fl bk=hi) (hup:∀ g,LeG g (eV g fl bk)->LeG g hi) (lh:LeG lo hi):al n fl bk lo (ris n lo hi)=hi:=by
 have e:al n fl bk lo (PL n)=hi:=by
  refine (J6 hb ok hf hlo ⟨⟨oh,fun i h1 h2=>absurd (List.mem_range.mpr h1) h2,lh,?_⟩,fun w hw=>hup w hw.2.2.2⟩).symm
  rw[fx]
  exact gR _
 have:=zY hb ok hf hlo (PL n)
 rw[e] at this
 exact this
theorem Jv (hb:bk.length=n) (ok:okB bk) (hf:okG n fl) (hlo:Low n fl bk lo) (hup:∀ g,LeG g (eV g fl bk)->LeG g hi) (c:List Nat) {i:Nat} (h:i∈ris n lo (al n fl bk lo c)):i∈ris n lo hi:=by
 obtain⟨h1,h2⟩:=gj.mp h
 have:=hup _ (dI hb ok hf hlo c).1.2.2.2 i
 exact gj.mpr ⟨h1,by lia⟩
structure An (n:Nat) (fl:List Int) (bk:List (List Pl)) (lo hi:List Int) (S A F:List (List Nat)):Prop where
 cl:∀ c∈S,ris n lo (al n fl bk lo c)=c
 nd:S.Nodup
 e0:[]∈S
 tp:ris n lo hi∈S
 aS:∀ c∈A,c∈S/\c≠[]
 aN:A.Nodup
 st:∀ c∈S,c ∉ A->c≠[]->∀ one∈c,ris n lo (al n fl bk lo (wo c one))∈S
 fN:F.Nodup
 fI:∀ c,c∈F ↔ c∈S/\c ∉ A/\c≠[]/\Knot n fl bk lo c
theorem An.len {S A F:List (List Nat)} (h:An n fl bk lo hi S A F):S.length<=2 ^ n:=by
 have:=cV (m:=cO n) h.nd fun c hc=>by
  rw[← h.cl c hc]
  exact d8 _ n
 rw[dM] at this
 exact this
theorem An.done {S F:List (List Nat)} (hb:bk.length=n) (ok:okB bk) (hf:okG n fl) (hlo:Low n fl bk lo) (hup:∀ g,LeG g (eV g fl bk)->LeG g hi) (h:An n fl bk lo hi S [] F) (c:List Nat):c∈F ↔ c.Pairwise (· < ·)/\(∀ i∈c,i < n)/\Knot n fl bk lo c:=by
 rw[h.fI]
 refine⟨fun⟨h1,_,_,h4⟩=>?_,fun⟨h1,h2,h3⟩=>?_⟩
 ·refine⟨?_,fun i hi'=>?_,h4⟩
  ·rw[← h.cl c h1]
   exact j4 _
  ·rw[← h.cl c h1] at hi'
   exact (gj.mp hi').1
 ·refine⟨yU hb ok hf hlo h.cl h.tp (fun c i hi'=>Jv hb ok hf hlo hup c hi') (fun c hc c0 one ho=>h.st c hc (by simp) c0 one ho) h1 h2 h3,by simp,fun z=>?_,h3⟩
  rw[z] at h3
  exact h3.1 (wY hb ok hf hlo)
theorem An.turn {S A F:List (List Nat)} {c:List Nat} {N:List (List Nat)} (hb:bk.length=n) (ok:okB bk) (hf:okG n fl) (hlo:Low n fl bk lo) (h:An n fl bk lo hi S (A++[c]) F) (n1:N.Nodup) (n2:∀ d∈N,d ∉ S/\ris n lo (al n fl bk lo d)=d)
  (all:∀ one∈c,ris n lo (al n fl bk lo (wo c one))∈S++N) {F':List (List Nat)} (hF:F'=if (∀ one∈c,al n fl bk lo (wo c one)=lo) then F++[c] else F):An n fl bk lo hi (S++N) (A++N) F':=by
 obtain⟨cS,c0⟩:=h.aS c (List.mem_append.mpr (.inr (List.mem_singleton.mpr rfl)))
 have cA:c ∉ A:=fun z=>(List.nodup_append.mp h.aN).2.2 c z c (List.mem_singleton.mpr rfl) rfl
 have cN:c ∉ N:=fun z=>(n2 c z).1 cS
 have alc:al n fl bk lo c≠lo:=fun z=>c0 (by rw[← h.cl c cS,z,G4])
 have kn:Knot n fl bk lo c ↔ ∀ one∈c,al n fl bk lo (wo c one)=lo:=⟨fun k=>k.2,fun k=>⟨alc,k⟩⟩
 have cF:c ∉ F:=fun z=>((h.fI c).mp z).2.1 (List.mem_append.mpr (.inr (List.mem_singleton.mpr rfl)))
 have nn0:∀ d∈N,d≠[]:=fun d hd z=>(n2 d hd).1 (by rw[z]; exact h.e0)
 refine⟨fun d hd=>?_,?_,List.mem_append.mpr (.inl h.e0),List.mem_append.mpr (.inl h.tp),fun d hd=>?_,?_,fun d hd hA d0 one ho=>?_,?_,fun d=>?_⟩
 ·rcases List.mem_append.mp hd with z | z
  ·exact h.cl d z
  ·exact (n2 d z).2
 ·exact List.nodup_append.mpr ⟨h.nd,n1,fun a ha b hb' e=>(n2 b hb').1 (e▸ha)⟩
 ·rcases List.mem_append.mp hd with z | z
  ·obtain⟨a,b⟩:=h.aS d (List.mem_append.mpr (.inl z))
   exact⟨List.mem_append.mpr (.inl a),b⟩
  ·exact⟨List.mem_append.mpr (.inr z),nn0 d z⟩
 ·exact List.nodup_append.mpr ⟨(List.nodup_append.mp h.aN).1,n1,fun a ha b hb' e=>(n2 b hb').1 (e▸(h.aS a (List.mem_append.mpr (.inl ha))).1)⟩
 ·have hdN:d ∉ N:=fun z=>hA (List.mem_append.mpr (.inr z))
  have hdA:d ∉ A:=fun z=>hA (List.mem_append.mpr (.inl z))
  have hdS:d∈S:=by
   rcases List.mem_append.mp hd with z | z
   ·exact z
   ·exact absurd z hdN
  by_cases e:d=c
  ·subst e
   exact all one ho
  ·refine List.mem_append.mpr (.inl (h.st d hdS (fun z=>?_) d0 one ho))
   rcases List.mem_append.mp z with z | z
   ·exact hdA z
   ·exact e (List.mem_singleton.mp z)
 ·rw[hF]
  split
  ·exact List.nodup_append.mpr ⟨h.fN,by simp,fun a ha b hb' e=>cF (by rw[← List.mem_singleton.mp hb',← e]; exact ha)⟩
  ·exact h.fN
 ·have old:d≠c->(d∈F ↔ d∈S++N/\d ∉ A++N/\d≠[]/\Knot n fl bk lo d):=fun ne=>by
   rw[h.fI d]
   refine⟨fun⟨a1,a2,a3,a4⟩=>⟨List.mem_append.mpr (.inl a1),fun z=>?_,a3,a4⟩,fun⟨a1,a2,a3,a4⟩=>⟨?_,fun z=>?_,a3,a4⟩⟩
   ·rcases List.mem_append.mp z with z | z
    ·exact a2 (List.mem_append.mpr (.inl z))
    ·exact (n2 d z).1 a1
   ·rcases List.mem_append.mp a1 with z | z
    ·exact z
    ·exact absurd (List.mem_append.mpr (.inr z)) a2
   ·rcases List.mem_append.mp z with z | z
    ·exact a2 (List.mem_append.mpr (.inl z))
    ·exact ne (List.mem_singleton.mp z)
  rw[hF]
  by_cases k:∀ one∈c,al n fl bk lo (wo c one)=lo
  ·rw[if_pos k,List.mem_append,Ud]
   by_cases e:d=c
   ·subst e
    exact⟨fun _=>⟨List.mem_append.mpr (.inl cS),fun z=>by
     rcases List.mem_append.mp z with z | z
     ·exact cA z
     ·exact cN z,c0,kn.mpr k⟩,fun _=>.inr rfl⟩
   ·rw[← old e]
    exact⟨fun z=>z.resolve_right e,fun z=>.inl z⟩
  ·rw[if_neg k]
   by_cases e:d=c
   ·subst e
    exact⟨fun z=>absurd z cF,fun z=>absurd (kn.mp z.2.2.2) k⟩
   ·exact old e
end
theorem LF.keep {H0 H H':Hp} (k:∀ (a:Addr) (c:List Nat),H0 a=none->H a=some (HO.lst (c.map vN))->H' a=some (HO.lst (c.map vN))):∀ {us:List V} {cs:List (List Nat)},LF H0 H us cs->LF H0 H' us cs
 | _,_,.nil=>.nil
 | _,_,.cons h1 h2 r=>.cons (k _ _ h2 h1) h2 (LF.keep k r)
theorem LF.snoc {H0 H:Hp} {a:Addr} {c:List Nat} (h1:H a=some (.lst (c.map vN))) (h2:H0 a=none):∀ {us:List V} {cs:List (List Nat)},LF H0 H us cs->LF H0 H (us++[.ref a]) (cs++[c])
 | _,_,.nil=>.cons h1 h2 .nil
 | _,_,.cons k1 k2 r=>.cons k1 k2 (LF.snoc h1 h2 r)
theorem LF.length {H0 H:Hp}:∀ {us:List V} {cs:List (List Nat)},LF H0 H us cs->us.length=cs.length
 | _,_,.nil=>rfl
 | _,_,.cons _ _ r=>by rw[Qk,Qk,LF.length r]
theorem LF.pairs {H0 H:Hp}:∀ {us:List V} {cs:List (List Nat)},LF H0 H us cs->∃ ps:List (Addr × List Int),us=ps.map (fun p=>V.ref p.1)/\ps.map (·.2)=cs.map iN/\∀ p∈ps,∃ c∈cs,p.2=iN c/\H p.1=some (.lst (c.map vN))/\H0 p.1=none
 | _,_,.nil=>⟨[],rfl,rfl,fun p hp=>by cases hp⟩
 | _,_,.cons (a:=a) (c:=c) h1 h2 r=>by
  obtain⟨ps,e1,e2,e3⟩:=LF.pairs r
  refine⟨(a,iN c)::ps,by rw[e1]; rfl,by rw[QH,QH,e2],fun p hp=>?_⟩
  rcases List.mem_cons.mp hp with z | z
  ·subst z
   exact⟨c,PN,rfl,h1,h2⟩
  ·obtain⟨c',h3,h4⟩:=e3 p z
   exact⟨c',Qc _ h3,h4⟩
theorem cY (c:List Nat):(iN c).map VP=c:=by
 unfold iN
 rw[RL]
 exact (Sy fun a _=>Qx a).trans (List.map_id c)
theorem LF.ordered {H0 H:Hp} {cs:List (List Nat)} {ps:List (Addr × List Int)} (h:∀ p∈ps,∃ c∈cs,p.2=iN c/\H p.1=some (.lst (c.map vN))/\H0 p.1=none):∀ {qs:List (Addr × List Int)},(∀ p∈qs,p∈ps)->LF H0 H (qs.map fun p=>V.ref p.1) (qs.map fun p=>p.2.map VP)
 | [],_=>.nil
 | q::qs,k=>by
  obtain⟨c,_,h2,h3,h4⟩:=h q (k q PN)
  refine .cons ?_ h4 (LF.ordered h fun p hp=>k p (Qc _ hp))
  show H q.1=some (.lst ((q.2.map VP).map vN))
  rw[h2,cY]
  exact h3
abbrev uy:Stmt:=top 25
theorem eN:aX ["book","floor","sure","whole","found","known","seen","ahead","giving","rows","row"] ["book","floor"] (aJ uy):=⟨rfl,rfl,rfl,by decide+kernel,rfl,by decide+kernel,by decide+kernel⟩
def eQ (n:Nat) (fl:List Int) (bk:List (List Pl)) (ks:List (List Nat)):Prop :=
 (∀ lo,Low n fl bk lo->∀ c,c∈ks ↔ c.Pairwise (· < ·)/\(∀ i∈c,i < n)/\Knot n fl bk lo c)/\ks.Pairwise fun c d=>HT.lexLt (iN c) (iN d)=true
inductive vZ (vs:List V) (H:Hp) (Q:VK):Prop where
 | mk (b f:Addr) (n:Nat) (bk:List (List Pl)) (fl:List Int) (z0:vs=[.ref b,.ref f]) (z1:n<=6) (z2:nZ n H b bk) (z3:bk.length=n) (z4:H f=some (.tup (fl.map V.int))) (z5:okG n fl) (z6:∀ (r:Addr) (us:List V) (ks:List (List Nat)) (H':Hp),aM H H'->H r=none->H' r=some (.lst us)->LF H H' us ks->(∀ a,V.ref a∈us->a≠r)->eQ n fl bk ks->Q (.ref r) H'):vZ  vs H Q
def Dc:Sp:=fun vs H Q _=>vZ  vs H Q
def KW (n:Nat) (fl:List Int) (bk:List (List Pl)) (lo hi:List Int) (b f su wh fo kn se ah:Addr) (H0 Hi:Hp) (m:Nat) (σ:St) (Hx:Hp):Prop :=
 ∃ (S A F:List (List Nat)) (kvs svs:List (List Key × V)) (ua uf:List V),(∃ u8 u9 u10,σ=[some (.ref b),some (.ref f),some (.ref su),some (.ref wh),some (.ref fo),some (.ref kn),some (.ref se),some (.ref ah),u8,u9,u10])/\m+2 * S.length=2 * 2 ^ n+A.length ∧
 aM H0 Hx/\(∀ a o,Hi a=some o->∃ o',Hx a=some o')/\An n fl bk lo hi S A F/\Hx kn=some (.dT kvs)/\ux n fl bk lo Hx kvs/\Hx se=some (.dT svs)/\svs.map (·.1)=S.map (fun c=>kg (al n fl bk lo c))/\Hx ah=some (.lst ua)/\fu Hx ua (A.map fun c=>al n fl bk lo c)/\Hx fo=some (.lst uf)/\LF Hi Hx uf F
theorem Ff {k:Nat} (hk1:1<=k) (F:Fun K "knots" "knots" uy f fd) (B:Bt mg)
  (D_least:Df P w K mg base "least" (k+1) ["book","floor"] (ud Kl)) (D_greatest:Df P w K mg base "greatest" (k+1) ["book","floor"] (ud rfF)) (D_put_off:Df P w K mg base "put_off" k ["book","sure","giving","known"] xT) (D_risers:Df P w K mg base "risers" 1 ["sure","giving"] pM) :
  eX P w K mg base CX0 (k+2) f fd ["book","floor"] Dc:=by
 refine F.ok eN (fun vs H Q E h=>?_) (fun cdv A outer s H vs Q E hr h=>?_)
 ·obtain⟨b,f,n,bk,fl,rfl,_⟩:=h
  rfl
 ·obtain⟨b,f,n,bk,fl,rfl,n6,hB,lb,hf,of,q⟩:=h
  refine⟨_,(aA (aR (i:=2) eN.nd rfl (Wg rfl) (aY D_least hr (aa (pv 0) (aa (pv 1) aq))))
 (aA (aR (i:=3) eN.nd rfl (Qi rfl) (aY D_greatest hr (aa (pv 0) (aa (pv 1) aq))))
 (aA (cg (aV (r:=Ga K) (vO hr.mF) (pv 3) (pv 2) (bf _)) (aC (aL (bK aq))) aW)
 (aA (aR (i:=4) eN.nd rfl (Qi rfl) (bK aq))
 (aA (aR (i:=5) eN.nd rfl (Qi rfl) Ey)
 (aA (aR (i:=6) eN.nd rfl (Qi rfl) (DY hr.mF (xG (pv 2) jw (xG (pv 3) jw Ip)) rfl rfl (by simp) (by decide)))
 (aA (aR (i:=7) eN.nd rfl (Qi rfl) (bK (aa (pv 3) aq)))
 (aA (pW Ro (aV vH (aK (r:=yR K) cI rfl B.len_ ig (aa (pv 7) aq)) aB (bf _)) (aA (aR (i:=8) eN.nd rfl (Qi rfl) (Mm QB PySem.F.slot_list_pop PySem.F.type_list_pop Ld (pv 7)))
 (aA (aR (i:=9) eN.nd rfl (Qi rfl) (aY D_put_off hr (aa (pv 0) (aa (pv 2) (aa (pv 8) (aa (pv 5) aq))))))
 (aA (cg (iz (aK (r:=JV K) (tZ rfl) rfl B.all_ GJ (aa (bA (L:=["row"]) (F:=["sure"]) (cap:=[2]) rfl (bu rfl rfl (by kernel_rfl)) (dY (pv 9)) (fun _ _ _ _ _=>(aG (i:=0) (aO (by decide+kernel)) rfl (Qi rfl))) (fun _ _ _ _ _=>bC) (fun _ _ _ _ _=>(gf (r:=Ga K) (vO hr.mF) (pv 0) (pv 1) (bf _)))) aq))) (aC (gk (jX QB Rm Rk cM (pv 4) (aa (bG (r:=BJ K) yQ rfl B.list_ vB (aa (aY D_risers hr (aa (pv 2) (aa (pv 8) aq))) aq)) aq)))) aW)
 (aC (gK Ro rfl (dY (pv 9)) (aG (i:=10) eN.nd rfl (Qi rfl)) (aC (cg (Ba (rn hr.rY (pv 10) (pv 6))) (aA (zP hr.rY (pv 6) (pv 10) jw rfl)
 (aC (gk (jX QB Rm Rk cM (pv 7) (aa (pv 10) aq))))) aW))))))))
 (aC (aL (aK (r:=vC K) (nT hr) rfl B.sorted_ (by decide+kernel) (aa (pv 4) aq)))))))))))),?_⟩
  have okb:=hB.okB
  have p6:2 ^ n<=64:=by
   have:2 ^ n<=2 ^ 6:=Vu (by decide) n6
   simpa using this
  refine bw (fun σ H1=>∃ (su:Addr) (lo:List Int),σ=[some (.ref b),some (.ref f),some (.ref su),none,none,none,none,none,none,none,none]/\aM H H1/\H1 su=some (.tup (lo.map V.int))/\Low n fl bk lo) ?q1 ?t1
  case t1 =>
   intro N Rc
   exact⟨_,rfl,_,rfl,b,f,n,bk,fl,rfl,hB,lb,hf,of,fun m1 a1 H1 _ st1 s1 e1=>Rc _ _ ⟨a1,_,rfl,s1,e1,dq lb okb of st1⟩⟩
  case q1 =>
  rintro σ H1 ⟨su,lo,rfl,s1,esu,low⟩
  refine bw (fun σ H2=>∃ (wh:Addr) (hi:List Int),σ=[some (.ref b),some (.ref f),some (.ref su),some (.ref wh),none,none,none,none,none,none,none]/\aM H1 H2/\H2 wh=some (.tup (hi.map V.int))/\okG n hi/\eV hi fl bk=hi/\∀ g,LeG g (eV g fl bk)->LeG g hi) ?q2 ?t2
  case t2 =>
   intro N Rc
   refine⟨_,rfl,_,rfl,b,f,n,bk,fl,rfl,hB.mono s1,lb,s1 _ _ hf,of,fun m2 a2 H2 _ st2 s2 e2=>Rc _ _ ⟨a2,_,rfl,s2,e2,dG lb okb of (dB lb okb of) m2,st2.1,fun g h=>m8 lb okb of h m2⟩⟩
  case q2 =>
  rintro σ H2 ⟨wh,hi,rfl,s2,ewh,oh,fx,hup⟩
  have s12:=s1.trans s2
  have lh:LeG lo hi:=low.2.2 hi (by rw[fx]; exact gR _)
  refine bw (fun σ H3=>σ=[some (.ref b),some (.ref f),some (.ref su),some (.ref wh),none,none,none,none,none,none,none]/\H3=H2/\hi≠lo) ?q3 ?t3
  case t3 =>
   intro N Rc
   refine⟨_,rfl,_,rfl,wh,su,hi,lo,rfl,rfl,SqT.of ewh,SqT.of (s2 _ _ esu),_,rfl,?_⟩
   by_cases e:hi=lo
   ·rw[decide_eq_true e]
    refine jt ⟨small (by show 0<=1000; decide),fun p hp=>?_⟩
    refine q p [] [] _ (s12.trans (au hp _)) (s12.free hp) aj .nil (fun a h=>by cases h) ⟨fun lo' hlo' c=>⟨fun z=>(by cases z),fun z=>absurd ?_ z.2.2.1⟩,.nil⟩
    have:lo'=lo:=hlo'.uniq low
    subst this
    have m:=dI lb okb of low c
    refine fD (by rw[ie lb okb of low,low.1.1]) ?_ m.1.2.2.1
    have:=hup _ m.1.2.2.2
    rw[e] at this
    exact this
   ·rw[decide_eq_false e]
    exact gq (Rc _ _ ⟨rfl,rfl,e⟩)
  case q3 =>
  rintro σ H3 ⟨rfl,rfl,hne⟩
  refine bw (fun σ H4=>∃ fo:Addr,σ=[some (.ref b),some (.ref f),some (.ref su),some (.ref wh),some (.ref fo),none,none,none,none,none,none]/\aM H3 H4/\H3 fo=none/\H4 fo=some (.lst [])) ?q4 ?t4
  case t4 =>
   intro N Rc
   exact⟨small (by show 0<=1000; decide),fun p hp=>Rc _ _ ⟨p,rfl,au hp _,hp,aj⟩⟩
  case q4 =>
  rintro σ H4 ⟨fo,rfl,s4,ffo,efo⟩
  refine bw (fun σ H5=>∃ kn:Addr,σ=[some (.ref b),some (.ref f),some (.ref su),some (.ref wh),some (.ref fo),some (.ref kn),none,none,none,none,none]/\aM H4 H5/\H4 kn=none/\H5 kn=some (.dT [])) ?q5 ?t5
  case t5 =>
   intro N Rc
   exact fun p hp=>Rc _ _ ⟨p,rfl,au hp _,hp,aj⟩
  case q5 =>
  rintro σ H5 ⟨kn,rfl,s5,fkn,ekn⟩
  have s35:=s4.trans s5
  refine bw (fun σ H6=>∃ (se:Addr) (svs:List (List Key × V)),σ=[some (.ref b),some (.ref f),some (.ref su),some (.ref wh),some (.ref fo),some (.ref kn),some (.ref se),none,none,none,none]/\aM H5 H6/\H5 se=none/\H6 se=some (.dT svs)/\svs.map (·.1)=[kg lo,kg hi]) ?q6 ?t6
  case t6 =>
   intro N Rc p hp
   have nk:kg lo≠kg hi:=fun z=>hne (G3 z).symm
   have e1:putK ([]:List (List Key × V)) (kg lo) (.bl true)=[(kg lo,.bl true)]:=lZ _ Fg
   have e2:putK ([(kg lo,.bl true)]:List (List Key × V)) (kg hi) (.bl true)=[(kg lo,.bl true),(kg hi,.bl true)]:=lZ _ (cX nk)
   refine⟨_,rfl,_,rfl,[],kg lo,su,aj,rfl,?_,aD (by show 0<=1000; decide),_,kg hi,wh,aj,rfl,?_,aD (by rw[e1]; show 1<=1000; decide),Rc _ _ ⟨p,_,rfl,aF (aF (au hp _) hp _) hp _,hp,aj,by rw[e1,e2]; rfl⟩⟩
   ·rw[Jc]
    exact au hp _ _ _ (s35 _ _ (s2 _ _ esu))
   ·rw[Jc]
    exact aF (au hp _) hp _ _ _ (s35 _ _ ewh)
  case q6 =>
  rintro σ H6 ⟨se,svs0,rfl,s6,fse,ese,esv⟩
  refine bw (fun σ H7=>∃ ah:Addr,σ=[some (.ref b),some (.ref f),some (.ref su),some (.ref wh),some (.ref fo),some (.ref kn),some (.ref se),some (.ref ah),none,none,none]/\aM H6 H7/\H6 ah=none/\H7 ah=some (.lst [.ref wh])) ?q7 ?t7
  case t7 =>
   intro N Rc
   exact⟨_,rfl,small (by show 1<=1000; decide),fun p hp=>Rc _ _ ⟨p,rfl,au hp _,hp,aj⟩⟩
  case q7 =>
  rintro σ Hi ⟨ah,rfl,s7,fah,eah⟩
  have s3i:=s35.trans (s6.trans s7)
  have kn3:H3 kn=none:=s4.free fkn
  have se3:H3 se=none:=s35.free fse
  have ah3:H3 ah=none:=(s35.trans s6).free fah
  have efoi:=(s5.trans (s6.trans s7)) _ _ efo
  have ekni:=(s6.trans s7) _ _ ekn
  have esei:=s7 _ _ ese
  have nfa:fo≠ah:=fun z=>by rw[← z,(s5.trans s6) _ _ efo] at fah; cases fah
  have alt:=Mh lb okb of low oh fx hup lh
  have rtop:ris n lo hi≠[]:=fun z=>hne (by
   rw[← alt] at z
   have:=Je lb okb of low z
   rw[alt] at this
   exact this)
  have hBi:=hB.mono s12
  refine bw (fun σ Hx=>∃ (S F:List (List Nat)) (uf:List V),(∃ u8 u9 u10,σ=[some (.ref b),some (.ref f),some (.ref su),some (.ref wh),some (.ref fo),some (.ref kn),some (.ref se),some (.ref ah),u8,u9,u10])/\aM H3 Hx/\An n fl bk lo hi S [] F/\Hx fo=some (.lst uf)/\LF Hi Hx uf F) ?qR ?tW
  case qR =>
   rintro σ Hx ⟨S,Fs,uf,⟨u8,u9,u10,rfl⟩,sx,sr,efx,lf⟩
   obtain⟨ps,e1,e2,e3⟩:=lf.pairs
   subst e1
   have fl63:Fs.length < 64:=by
    have h1:=cV (m:=S.erase []) sr.fN fun c hc=>(WR ((sr.fI c).mp hc).2.2.1).mpr ((sr.fI c).mp hc).1
    rw[Wh sr.e0] at h1
    have h2:=sr.len
    have h3:0 < S.length:=List.length_pos_of_mem sr.e0
    lia
   have lps:ps.length=Fs.length:=by
    have:=congrArg Vv e2
    rw[Pq,Pq] at this
    exact this
   have ndp:(ps.map (·.2)).Nodup:=by
    rw[e2]
    exact List.Pairwise.map _ (fun a b ne e=>ne (by rw[← cY a,← cY b,e])) sr.fN
   refine⟨_,rfl,fo,ps,rfl,SqL.of efx,by lia,fun p hp=>?_,ndp,fun qs pq pw l hl=>?_⟩
   ·obtain⟨c,_,h2,h3,_⟩:=e3 p hp
    exact SqL.of (h3.trans (by rw[h2,eF]; rfl))
   ·have inp:∀ p∈qs,p∈ps:=fun p hp=>pq.mem_iff.mp hp
    have sn:=au hl (.lst (qs.map fun p=>V.ref p.1))
    have lo':=LF.ordered (qs:=qs) e3 inp
    have lo2:LF H (upd Hx l (.lst (qs.map fun p=>V.ref p.1))) (qs.map fun p=>V.ref p.1) (qs.map fun p=>p.2.map VP):=by
     have:∀ {us cs},LF Hi Hx us cs->LF H (upd Hx l (.lst (qs.map fun p=>V.ref p.1))) us cs:=by
      intro us cs z
      induction z with
      | nil=>exact .nil
      | cons h1 h2 _ ih=>exact .cons (sn _ _ h1) ((s12.trans s3i).free h2) ih
     exact this lo'
    have memF:∀ c,c∈(qs.map fun p=>p.2.map VP) ↔ c∈Fs:=fun c=>by
     have e4:ps.map (fun p=>p.2.map VP)=Fs:=by
      have:=congrArg (List.map (List.map VP)) e2
      rw[RL,RL] at this
      exact this.trans ((Sy fun a _=>cY a).trans (List.map_id Fs))
     rw[← e4]
     exact (pq.map _).mem_iff
    refine q l _ _ _ ((s12.trans sx).trans sn) ((s12.trans sx).free hl) aj lo2 (fun a ha=>?_) ⟨fun lo2 hlo2 c=>?_,?_⟩
    ·obtain⟨p,hp,e⟩:=List.mem_map.mp ha
     obtain⟨c,_,_,h3,_⟩:=e3 p (inp p hp)
     intro z
     cases e
     rw[z,hl] at h3
     cases h3
    ·have:lo2=lo:=hlo2.uniq low
     subst this
     rw[memF]
     exact sr.done lb okb of low hup c
    ·rw[RK]
     refine pw.imp_of_mem fun {a b} ha hb h=>?_
     obtain⟨c,_,h2,_⟩:=e3 a (inp a ha)
     obtain⟨d,_,h3,_⟩:=e3 b (inp b hb)
     rw[h2,h3,cY,cY,← h2,← h3]
     exact h
  case tW =>
   intro N Rc
   have sr0:An n fl bk lo hi [[],ris n lo hi] [ris n lo hi] []:=by
    refine⟨fun c hc=>?_,?_,by simp,by simp,fun c hc=>?_,by simp,fun c hc hA c0=>?_,.nil,fun c=>⟨fun z=>(by cases z),fun z=>?_⟩⟩
    ·rcases List.mem_cons.mp hc with z | z
     ·rw[z,wY lb okb of low,G4]
     ·rw[List.mem_singleton.mp z,alt]
    ·refine List.nodup_cons.mpr ⟨fun z=>rtop (List.mem_singleton.mp z).symm,by simp⟩
    ·rw[List.mem_singleton.mp hc]
     exact⟨by simp,rtop⟩
    ·rcases List.mem_cons.mp hc with z | z
     ·exact absurd z c0
     ·exact absurd z hA
    ·rcases List.mem_cons.mp z.1 with y | y
     ·exact absurd y z.2.2.1
     ·exact absurd y z.2.1
   refine⟨KW n fl bk lo hi b f su wh fo kn se ah H3 Hi,⟨2 * 2 ^ n+1 - 4,[[],ris n lo hi],[ris n lo hi],[],[],svs0,[.ref wh],[],⟨_,_,_,rfl⟩,?_,s3i,fun a o e=>⟨o,e⟩,sr0,ekni,⟨.nil,fun p hp=>by cases hp⟩,esei,?_,eah,?_,efoi,.nil⟩,?_⟩
   ·have:=sr0.len
    show _+2 * 2=2 * 2 ^ n+1
    have h2:([[],ris n lo hi]:List (List Nat)).length=2:=rfl
    lia
   ·rw[esv,QH,QH,Vg,wY lb okb of low,alt]
   ·rw[QH,Vg,alt]
    exact .cons (s3i _ _ ewh) (by rw[oh.1]; lia) .nil
   rintro m σ Hx ⟨S,Ap,Fs,kvs,svs,ua,uf,⟨u8,u9,u10,rfl⟩,hm,sx,kept,sr,ekx,kno,esx,esk,eax,gax,efx,lf⟩
   refine⟨_,rfl,ah,_,rfl,.inl (SqL.of eax),_,_,rfl,rfl,_,rfl,?_⟩
   rcases List.eq_nil_or_concat Ap with hA | ⟨A',c,hA⟩
   ·subst hA
    cases gax
    exact gq (Rc _ _ ⟨S,Fs,uf,⟨_,_,_,rfl⟩,sx,sr,efx,lf⟩)
   rw[List.concat_eq_append] at hA
   subst hA
   rw[PJ] at gax
   obtain⟨ua',ga,rfl,gax',ega0⟩:=gax.Gq
   have ega:Hx ga=some (.tup ((al n fl bk lo c).map V.int)):=ega0
   rw[decide_eq_true (show (((ua'++[V.ref ga]).length:Nat):Int) > 0 by rw[Qf]; have:([V.ref ga]:List V).length=1:=rfl; lia)]
   refine jt ⟨fun σ' H'=>∃ m',m' < m/\KW n fl bk lo hi b f su wh fo kn se ah H3 Hi m' σ' H',fun _ _ h=>h,?_⟩
   obtain⟨cS,c0⟩:=sr.aS c (List.mem_append.mpr (.inr (List.mem_singleton.mpr rfl)))
   have hcl:=sr.cl c cS
   have c12:c.length<=6:=by
    rw[← hcl]
    exact Q0 (Tc _ _) (by rw[Qn]; exact n6)
   refine bw (fun σ Hy=>σ=[some (.ref b),some (.ref f),some (.ref su),some (.ref wh),some (.ref fo),some (.ref kn),some (.ref se),some (.ref ah),some (.ref ga),u9,u10]/\Hy=upd Hx ah (.lst ua')) ?qp ?tp
   case tp =>
    intro N2 Rc2
    refine⟨_,rfl,.inl ⟨rfl,_,SqL.of eax⟩,ah,_,.ref ga,rfl,rfl,eax,by simp,Rc2 _ _ ⟨rfl,by rw[List.dropLast_concat]⟩⟩
   case qp =>
   rintro σ Hy ⟨rfl,eHy⟩
   have sHy:aM H3 Hy:=by rw[eHy]; exact aF sx ah3 _
   have yo:∀ a o,a≠ah->Hx a=some o->Hy a=some o:=fun a o na e=>by rw[eHy,bx na]; exact e
   have nka:kn≠ah:=fun z=>by rw[z,eax] at ekx; cases ekx
   have nsa:se≠ah:=fun z=>by rw[z,eax] at esx; cases esx
   have nsk:se≠kn:=fun z=>by rw[z,ekn] at fse; cases fse
   have tyo:∀ a xs,Hx a=some (HO.tup xs)->Hy a=some (HO.tup xs):=fun a xs e=>yo a _ (fun z=>by rw[z,eax] at e; cases e) e
   have eya:Hy ah=some (.lst ua'):=by rw[eHy]; exact aj
   refine bw (fun σ Hz=>∃ (ro:Addr) (ur:List V) (kvs':List (List Key × V)),σ=[some (.ref b),some (.ref f),some (.ref su),some (.ref wh),some (.ref fo),some (.ref kn),some (.ref se),some (.ref ah),some (.ref ga),some (.ref ro),u10]/\aM H3 Hz/\(∀ a o,a≠kn->Hy a=some o->Hz a=some o)/\Hy ro=none/\Hz ro=some (.lst ur)/\fu Hz ur (c.map fun one=>al n fl bk lo (wo c one))/\Hz kn=some (.dT kvs')/\ux n fl bk lo Hz kvs') ?qo ?to
   case to =>
    intro N2 Rc2
    exact⟨_,rfl,_,rfl,_,rfl,_,rfl,b,su,ga,kn,n,bk,fl,lo,c,kvs,H3,rfl,by lia,sHy,kn3,hBi,lb,of,s2 _ _ esu,low,tyo _ _ ega,hcl,yo _ _ nka ekx,kno.bj tyo,fun r us kvs' H' h1 h2 h3 h4 h5 h6 h7=>Rc2 _ _ ⟨r,us,kvs',rfl,h1,h2,h3,h4,h5,h6,h7⟩⟩
   case qo =>
   rintro σ Hz ⟨ro,ur,kvs',rfl,sz,yz,fro,ero,gr,ekz,knz⟩
   have efy:=yo _ _ nfa efx
   have nfk:fo≠kn:=fun z=>by rw[z,ekx] at efx; cases efx
   have nfs:fo≠se:=fun z=>by rw[z,esx] at efx; cases efx
   have efz:=yz _ _ nfk efy
   have ezs:Hz se=some (.dT svs):=yz _ _ nsk (yo _ _ nsa esx)
   have eza:Hz ah=some (.lst ua'):=yz _ _ nka.symm eya
   have tyz:∀ a xs,Hy a=some (HO.tup xs)->Hz a=some (HO.tup xs):=fun a xs e=>yz a _ (fun z=>by rw[z,yo _ _ nka ekx] at e; cases e) e
   have egz:=tyz _ _ (tyo _ _ ega)
   have keptz:∀ a o,Hi a=some o->∃ o',Hz a=some o':=fun a o e=>by
    obtain⟨o',e'⟩:=kept a o e
    by_cases z1:a=kn
    ·rw[z1]; exact⟨_,ekz⟩
    ·by_cases z2:a=ah
     ·rw[z2]; exact⟨_,eza⟩
     ·exact⟨o',yz _ _ z1 (yo _ _ z2 e')⟩
   have fresh:∀ {a:Addr} {G:Hp},(∀ b o,Hz b=some o->∃ o',G b=some o')->G a=none->Hi a=none:=fun {a G} kp e=>by
    cases z:Hi a with
    | none=>rfl
    | some o =>
     obtain⟨o1,h1⟩:=keptz a o z
     obtain⟨o2,h2⟩:=kp a o1 h1
     rw[e] at h2
     cases h2
   have lfz:LF Hi Hz uf Fs:=lf.keep fun a c' ha e=>yz _ _ (fun z=>by rw[z,ekni] at ha; cases ha) (yo _ _ (fun z=>by rw[z,eah] at ha; cases ha) e)
   have nro:ro≠ah/\ro≠se/\ro≠fo:=⟨fun z=>(by rw[z,eya] at fro; cases fro),fun z=>(by rw[z,yo _ _ nsa esx] at fro; cases fro),fun z=>(by rw[z,efy] at fro; cases fro)⟩
   have luf:uf.length<=64:=by
    rw[lf.length]
    have h1:=cV (m:=S) sr.fN fun c hc=>((sr.fI c).mp hc).1
    have:=sr.len
    lia
   refine bw (fun σ Hw=>∃ uf':List V,σ=[some (.ref b),some (.ref f),some (.ref su),some (.ref wh),some (.ref fo),some (.ref kn),some (.ref se),some (.ref ah),some (.ref ga),some (.ref ro),u10]/\aM H3 Hw/\(∀ a o,a≠fo->Hz a=some o->Hw a=some o)/\Hw fo=some (.lst uf')/\LF Hi Hw uf' (if (∀ one∈c,al n fl bk lo (wo c one)=lo) then Fs++[c] else Fs)) ?qf ?tf
   case tf =>
    intro N2 Rc2
    have lrw:(c.map fun one=>al n fl bk lo (wo c one)).length<=6:=by rw[Pq]; exact c12
    have lur:=gr.length
    refine⟨_,rfl,ro,rfl,⟨_,SqL.of ero⟩,fun D hD=>cH (K:=K) (a:=ro) (xs:=ur) (fun i zs σ' Hq=>(∃ u,σ'=[u,some (.ref su)])/\aM Hz Hq/\Hq D=some (.lst zs)/\zs=(((c.map fun one=>al n fl bk lo (wo c one)).take i).map fun g=>decide (g=lo)).map V.bl)
     ⟨⟨_,rfl⟩,au hD _,aj,rfl⟩ (fun i zs σ' Hq _ h=>⟨SqL.of (h.2.1 _ _ ero),h.2.2.1⟩) ?_ ?_⟩
    ·rintro i zs x σ' Hq hx ⟨⟨u,rfl⟩,sq,eDq,rfl⟩
     obtain⟨a,g,rfl,hg,ea,_⟩:=gr.at hx
     refine gT ?_
     refine⟨_,rfl,_,rfl,a,su,g,lo,rfl,rfl,SqT.of (sq _ _ ea),SqT.of ((sz.trans sq) _ _ (s2 _ _ esu)),eDq,aD (by rw[Pq,Pq,Qh]; lia),⟨_,rfl⟩,aF sq hD _,aj,?_⟩
     rw[Qz,hg,PJ,PJ]
     rfl
    ·rintro zs σ' Hq ⟨_,sq,eDq,rfl⟩
     rw[lur,Qg] at eDq
     refine⟨D,_,rfl,SqL.of eDq,_,rfl,?_⟩
     have hall:(((c.map fun one=>al n fl bk lo (wo c one)).map fun g=>decide (g=lo)).all fun b=>b)=decide (∀ one∈c,al n fl bk lo (wo c one)=lo):=by
      rw[VF,List.all_eq_true]
      simp
     rw[hall]
     by_cases e:∀ one∈c,al n fl bk lo (wo c one)=lo
     ·rw[decide_eq_true e]
      have efq:=sq _ _ efz
      refine jt ⟨_,rfl,.inl ⟨rfl,_,SqL.of efq⟩,_,rfl,_,rfl,su,ga,n,lo,_,rfl,by lia,(sz.trans sq) _ _ (s2 _ _ esu),low.1,sq _ _ egz,(dI lb okb of low c).1.1,fun rr Hr sr' err=>⟨rr,c.map vN,rfl,.inr (SqT.of (err.trans (by rw[hcl]))),fun l hl=>?_⟩⟩
      have sn:=au hl (.lst (c.map vN))
      have sqr:=sq.trans sr'
      have efl:=(sr'.trans sn) _ _ efq
      refine⟨fo,uf,_,rfl,rfl,efl,aD (by lia),?_⟩
      ·refine Rc2 _ _ ⟨_,rfl,?_,fun a o na e'=>by rw[bx na]; exact (sqr.trans sn) _ _ e',aj,?_⟩
       ·exact aF (sz.trans (sqr.trans sn)) ffo _
       ·rw[if_pos e]
        have hl0:Hi l=none:=fresh (G:=Hr) (fun b o e'=>⟨o,sqr _ _ e'⟩) hl
        have lfn:LF Hi (upd Hr l (.lst (c.map vN))) uf Fs:=lfz.keep fun a c' ha e'=>(sqr.trans sn) _ _ e'
        exact (LF.snoc aj hl0 lfn).keep fun a c' ha e'=>by
         rw[bx (fun z=>by rw[z,efoi] at ha; cases ha)]
         exact e'
     ·rw[decide_eq_false e]
      refine gq (Rc2 _ _ ⟨uf,rfl,sz.trans sq,fun a o _ e'=>sq _ _ e',sq _ _ efz,?_⟩)
      rw[if_neg e]
      exact lfz.keep fun a c' ha e'=>sq _ _ e'
   case qf =>
   rintro σ Hw ⟨uf',rfl,sw,zw,efw,lfw⟩
   have erw:Hw ro=some (.lst ur):=zw _ _ nro.2.2 ero
   have esw:Hw se=some (.dT svs):=zw _ _ nfs.symm ezs
   have eaw:Hw ah=some (.lst ua'):=zw _ _ nfa.symm eza
   have ekw:Hw kn=some (.dT kvs'):=zw _ _ nfk.symm ekz
   have tzw:∀ a xs,Hz a=some (HO.tup xs)->Hw a=some (HO.tup xs):=fun a xs e=>zw a _ (fun z=>by rw[z,efz] at e; cases e) e
   have gaw:fu Hw ua' (A'.map fun c=>al n fl bk lo c):=gax'.bj fun a xs e=>tzw _ _ (tyz _ _ (tyo _ _ e))
   have grw:=gr.bj tzw
   have keptw:∀ a o,Hi a=some o->∃ o',Hw a=some o':=fun a o e=>by
    obtain⟨o',e'⟩:=keptz a o e
    by_cases z1:a=fo
    ·rw[z1]; exact⟨_,efw⟩
    ·exact⟨o',zw _ _ z1 e'⟩
   refine⟨_,rfl,ro,rfl,⟨_,SqL.of erw⟩,my (K:=K) (a:=ro) (xs:=ur) (fun i σ Hv=>∃ (Nn:List (List Nat)) (svs2:List (List Key × V)) (ua2:List V),(∃ v10,σ=[some (.ref b),some (.ref f),some (.ref su),some (.ref wh),some (.ref fo),some (.ref kn),some (.ref se),some (.ref ah),some (.ref ga),some (.ref ro),v10])/\aM H3 Hv/\(∀ a o,a≠se->a≠ah->Hw a=some o->Hv a=some o)/\Hv se=some (.dT svs2)/\svs2.map (·.1)=(S++Nn).map (fun c=>kg (al n fl bk lo c))/\Hv ah=some (.lst ua2)/\fu Hv ua2 ((A'++Nn).map fun c=>al n fl bk lo c)/\Nn.Nodup/\(∀ d∈Nn,d ∉ S/\ris n lo (al n fl bk lo d)=d)/\∀ one∈c.take i,ris n lo (al n fl bk lo (wo c one))∈S++Nn)
    ⟨[],svs,ua',⟨_,rfl⟩,sw,fun a o _ _ e=>e,esw,by rw[Sx]; exact esk,eaw,by rw[Sx]; exact gaw,.nil,fun d hd=>(by cases hd),fun one ho=>(by rw[Rt] at ho; cases ho)⟩ (fun i σ Hv _ h=>?_) ?_ ?_⟩
   ·obtain⟨_,_,_,_,_,kp,_⟩:=h
    exact SqL.of (kp _ _ nro.2.1 nro.1 erw)
   ·rintro i x σ Hv hx ⟨Nn,svs2,ua2,⟨v10,rfl⟩,sv,kp,es2,ek2,ea2,g2,nn,nS,al2⟩
    obtain⟨a,g,rfl,hg,ea,_⟩:=grw.at hx
    rw[Qj] at hg
    obtain⟨one,hone,rfl⟩:=Option.map_eq_some_iff.mp hg
    have ea':Hv a=some (.tup ((al n fl bk lo (wo c one)).map V.int)):=kp _ _ (fun z=>by rw[z,esw] at ea; cases ea) (fun z=>by rw[z,eaw] at ea; cases ea) ea
    have hd:=zY lb okb of low (wo c one)
    have key:Hv a=some (.tup ((kg (al n fl bk lo (wo c one))).map kV)):=by rw[Jc]; exact ea'
    have nds:(S++Nn).Nodup:=List.nodup_append.mpr ⟨sr.nd,nn,fun a ha b hb' e=>(nS b hb').1 (e▸ha)⟩
    have lSN:(S++Nn).length<=64:=by
     have:=cV (m:=cO n) nds fun d hd'=>by
      have:ris n lo (al n fl bk lo d)=d:=by
       rcases List.mem_append.mp hd' with z | z
       ·exact sr.cl d z
       ·exact (nS d z).2
      rw[← this]
      exact d8 _ n
     rw[dM] at this
     lia
    have lsv:svs2.length=(S++Nn).length:=by
     have:=congrArg Vv ek2
     rw[Pq,Pq] at this
     exact this
    have lua:=g2.length
    rw[Pq,Qf] at lua
    have lA:A'.length<=64:=by
     have h1:=cV (m:=S) (List.nodup_append.mp sr.aN).1 fun d hd'=>(sr.aS d (List.mem_append.mpr (.inl hd'))).1
     rw[Qf] at lSN
     lia
    have nxt:∀ {X:List (List Nat)},(∀ d∈S++Nn,d∈X)->ris n lo (al n fl bk lo (wo c one))∈X->∀ o'∈c.take (i+1),ris n lo (al n fl bk lo (wo c o'))∈X:=fun {X} h1 h2 o' ho=>by
     rw[Qz,hone,List.mem_append] at ho
     rcases ho with z | z
     ·exact h1 _ (al2 o' z)
     ·cases List.mem_singleton.mp z
      exact h2
    refine gN ?_
    refine⟨_,rfl,_,rfl,se,iK svs2 (kg (al n fl bk lo (wo c one))),rfl,Du.t es2 key,_,rfl,?_⟩
    cases hv:iK svs2 (kg (al n fl bk lo (wo c one))) with
    | some v =>
     refine gq ⟨Nn,svs2,ua2,⟨_,rfl⟩,sv,kp,es2,ek2,ea2,g2,nn,nS,nxt (fun d z=>z) ?_⟩
     unfold iK at hv
     obtain⟨p,hp,_⟩:=Option.map_eq_some_iff.mp hv
     have k1:p.1=kg (al n fl bk lo (wo c one)):=by simpa using List.find?_some hp
     have k2:p.1∈svs2.map (·.1):=List.mem_map.mpr ⟨p,List.mem_of_find?_eq_some hp,rfl⟩
     rw[ek2] at k2
     obtain⟨d,hd1,hd2⟩:=List.mem_map.mp k2
     have hd3:=G3 (hd2.trans k1)
     have hd4:ris n lo (al n fl bk lo d)=d:=by
      rcases List.mem_append.mp hd1 with z | z
      ·exact sr.cl d z
      ·exact (nS d z).2
     rw[← hd3,hd4]
     exact hd1
    | none =>
     have dN:ris n lo (al n fl bk lo (wo c one)) ∉ S++Nn:=fun z=>by
      have:kg (al n fl bk lo (wo c one))∈svs2.map (·.1):=by
       rw[ek2]
       exact List.mem_map.mpr ⟨_,z,by rw[hd]⟩
      obtain⟨p,hp,e⟩:=List.mem_map.mp this
      unfold iK at hv
      exact List.find?_eq_none.mp (Option.map_eq_none_iff.mp hv) p hp (decide_eq_true e)
     refine jt ⟨_,rfl,_,rfl,se,_,rfl,Kh.t es2 key (aD (by lia)),?_⟩
     have ea3:upd Hv se (.dT (putK svs2 (kg (al n fl bk lo (wo c one))) (.bl true))) ah=some (.lst ua2):=by rw[bx nsa.symm]; exact ea2
     refine⟨_,rfl,.inl ⟨rfl,_,SqL.of ea3⟩,_,rfl,ah,ua2,_,rfl,rfl,ea3,aD (by rw[Qf] at lSN; lia),?_⟩
     refine⟨Nn++[ris n lo (al n fl bk lo (wo c one))],_,ua2++[.ref a],⟨_,rfl⟩,aF (aF sv se3 _) ah3 _,fun a' o' n1 n2 e'=>by rw[bx n2,bx n1]; exact kp _ _ n1 n2 e',by rw[bx nsa]; exact aj,?_,aj,?_,?_,fun d hd'=>?_,nxt (fun d z=>?_) ?_⟩
     ·rw[lZ _ hv,PJ,ek2,← Tn,PJ (l₁:=S++Nn)]
      show _++[kg (al n fl bk lo (wo c one))]=_++[kg (al n fl bk lo (ris n lo (al n fl bk lo (wo c one))))]
      rw[hd]
     ·rw[← Tn,PJ]
      have t1:=mG (o:=.dT (putK svs2 (kg (al n fl bk lo (wo c one))) (.bl true))) es2
      refine fu.bj (bR ea3) (fu.snoc ?_ (by rw[ie lb okb of low]; lia) (g2.bj t1))
      show upd Hv se _ a=some (.tup ((al n fl bk lo (ris n lo (al n fl bk lo (wo c one)))).map V.int))
      rw[hd]
      exact t1 _ _ ea'
     ·exact List.nodup_append.mpr ⟨nn,by simp,fun x hx' y hy e=>dN (List.mem_append.mpr (.inr (by rw[← List.mem_singleton.mp hy,← e]; exact hx')))⟩
     ·rcases List.mem_append.mp hd' with z | z
      ·exact nS d z
      ·rw[List.mem_singleton.mp z]
       exact⟨fun q=>dN (List.mem_append.mpr (.inl q)),by rw[hd]⟩
     ·rw[← Tn]
      exact List.mem_append.mpr (.inl z)
     ·rw[← Tn]
      exact List.mem_append.mpr (.inr (List.mem_singleton.mpr rfl))
   ·rintro σ Hv ⟨Nn,svs2,ua2,⟨v10,rfl⟩,sv,kp,es2,ek2,ea2,g2,nn,nS,al2⟩
    rw[grw.length,Pq,Qg] at al2
    have sr2:=An.turn lb okb of low sr nn nS al2 rfl
    have l2:=sr2.len
    rw[Qf] at l2 hm
    have l1:([c]:List (List Nat)).length=1:=rfl
    have tw:∀ a xs,Hw a=some (HO.tup xs)->Hv a=some (HO.tup xs):=fun a xs e=>kp _ _ (fun z=>by rw[z,esw] at e; cases e) (fun z=>by rw[z,eaw] at e; cases e) e
    refine⟨2 * 2 ^ n+(A'++Nn).length - 2 * (S++Nn).length,by rw[Qf,Qf]; lia,S++Nn,A'++Nn,_,kvs',svs2,ua2,uf',⟨_,_,_,rfl⟩,by rw[Qf,Qf]; lia,sv,fun a o e=>?_,sr2,kp _ _ nsk.symm nka ekw,knz.bj fun a xs e=>tw _ _ (tzw _ _ e),es2,ek2,ea2,g2,kp _ _ nfs nfa efw,lfw.keep fun a c' ha e=>kp _ _ (fun z=>by rw[z,esei] at ha; cases ha) (fun z=>by rw[z,eah] at ha; cases ha) e⟩
    obtain⟨o',e'⟩:=keptw a o e
    by_cases z1:a=se
    ·rw[z1]; exact⟨_,es2⟩
    ·by_cases z2:a=ah
     ·rw[z2]; exact⟨_,ea2⟩
     ·exact⟨o',kp _ _ z1 z2 e'⟩
section
variable {n:Nat} {fl lo:List Int} {bk:List (List Pl)}
theorem eQ.uniq (hb:bk.length=n) (ok:okB bk) (hf:okG n fl) (hlo:Low n fl bk lo) {ks js:List (List Nat)} (h:eQ n fl bk ks) (h':eQ n fl bk js):ks=js:=by
 have m:∀ c,c∈ks ↔ c∈js:=fun c=>(h.1 lo hlo c).trans (h'.1 lo hlo c).symm
 have p1:=h.2
 have p2:=h'.2
 clear h h'
 induction ks generalizing js with
 | nil =>
  cases js with
  | nil=>rfl
  | cons x _=>exact absurd ((m x).mpr PN) (by simp)
 | cons x ks ih =>
  cases js with
  | nil=>exact absurd ((m x).mp PN) (by simp)
  | cons y js =>
   rw[RX] at p1 p2
   have irr:∀ {a b:List Nat},HT.lexLt (iN a) (iN b)=true->HT.lexLt (iN b) (iN a)=true->False:=fun h1 h2=>by
    have:=ji h1 h2
    rw[gm] at this
    cases this
   have hxy:x=y:=by
    rcases List.mem_cons.mp ((m x).mp PN) with z | z
    ·exact z
    ·rcases List.mem_cons.mp ((m y).mpr PN) with z' | z'
     ·exact z'.symm
     ·exact (irr (p2.1 x z) (p1.1 y z')).elim
   subst hxy
   have ne:∀ {c},HT.lexLt (iN x) (iN c)=true->c≠x:=fun h e=>by
    rw[e,gm] at h
    cases h
   refine congrArg _ (ih (fun c=>⟨fun h=>?_,fun h=>?_⟩) p1.2 p2.2)
   ·exact (List.mem_cons.mp ((m c).mp (Qc _ h))).resolve_left (ne (p1.1 c h))
   ·exact (List.mem_cons.mp ((m c).mpr (Qc _ h))).resolve_left (ne (p2.1 c h))
end
def cD (c:List Nat):Dm:=.lst ((iN c).map Dm.int)
theorem Ay {H:Hp} {a:Addr} {c:List Nat} (h:H a=some (.lst (c.map vN))) (l:c.length<=1000):Rep H (.ref a) (cD c):=by
 rw[eF] at h
 exact .lst h (by rw[Pq,Pq]; lia) (nW _)
theorem Gk (c:List Nat):(cD c).dep=1:=by
 unfold cD
 rw[Dm.dep,nH]
theorem LF.rep {H0 H:Hp}:∀ {us:List V} {cs:List (List Nat)},LF H0 H us cs->(∀ c∈cs,c.length<=1000)->pH H us (cs.map cD)
 | _,_,.nil,_=>.nil
 | _,_,.cons h _ r,l=>.cons (Ay h (l _ PN)) (LF.rep r fun c hc=>l c (Qc _ hc))
theorem zb:∀ cs:List (List Nat),n8 (cs.map cD)<=1
 | []=>by rw[Vg,n8]; decide
 | c::cs=>by
  have:=zb cs
  rw[QH,n8]
  have:(cD c).dep=1:=Gk c
  lia
theorem Lj {a b:List Nat} (h:iN a=iN b):a=b:=by
 rw[← cY a,← cY b,h]
theorem LF.mono {H0 H H':Hp} (s:aM H H') {us:List V} {cs:List (List Nat)} (h:LF H0 H us cs):LF H0 H' us cs:=h.keep fun a c _ q=>s _ _ q
theorem eQ.few {n:Nat} {fl lo:List Int} {bk:List (List Pl)} {ks:List (List Nat)} (hlo:Low n fl bk lo) (h:eQ n fl bk ks):ks.length<=2 ^ n/\∀ c∈ks,c.length<=n:=by
 refine⟨?_,fun c hc=>?_⟩
 ·have nd:ks.Nodup:=h.2.imp fun {a b} q e=>by
   rw[e,gm] at q
   cases q
  have:=cV (m:=cO n) nd fun c hc=>by
   obtain⟨h1,h2,_⟩:=(h.1 lo hlo c).mp hc
   rw[← di h1 h2]
   exact d8 _ n
  rw[dM] at this
  exact this
 ·obtain⟨h1,h2,_⟩:=(h.1 lo hlo c).mp hc
  have:=oY (m:=0) h1 fun k hk=>⟨Qw _,h2 k hk⟩
  lia
def Ke (n:Nat) (fl:List Int) (bk:List (List Pl)) (hi:List Int):Prop:=okG n hi/\eV hi fl bk=hi/\∀ g,LeG g (eV g fl bk)->LeG g hi
open Classical in
def cl (n:Nat) (bk:List (List Pl)) (x:List Int):List Int:=if h:∃ y,Low n x bk y then Classical.choose h else []
section
variable {n:Nat} {fl hi:List Int} {bk:List (List Pl)}
theorem Ke.uniq {a b:List Int} (h:Ke n fl bk a) (h':Ke n fl bk b):a=b :=
 fD (by rw[h.1.1,h'.1.1]) (h'.2.2 _ (by rw[h.2.1]; exact gR _)) (h.2.2 _ (by rw[h'.2.1]; exact gR _))
theorem bJ (hb:bk.length=n) (ok:okB bk) (hf:okG n fl) {m:Nat} (st:Stops (Fd fl bk) (rfF fl bk) m):Ke n fl bk (itF (Fd fl bk) (rfF fl bk) m) :=
 ⟨dG hb ok hf (dB hb ok hf) m,st.1,fun _ h=>m8 hb ok hf h m⟩
theorem M8 {x y:List Int} (h:Low n x bk y):cl n bk x=y:=by
 have e:∃ y,Low n x bk y:=⟨y,h⟩
 unfold cl
 rw[dif_pos e]
 exact (Classical.choose_spec e).uniq h
theorem Kp (hb:bk.length=n) (ok:okB bk) {x:List Int} (hx:okG n x):Low n x bk (cl n bk x):=by
 obtain⟨m,_,st⟩:=kI hb ok hx
 have:=dq hb ok hx st
 rw[M8 this]
 exact this
end
theorem cB.keep {n:Nat} {H:Hp} {D:Addr} {zs zs':List V} (hD:H D=some (.lst zs)):∀ {us:List V} {bs:List (List Pl)},cB n H us bs->(∀ u∈us,u≠.ref D)->cB n (upd H D (.lst zs')) us bs
 | _,_,.nil,_=>.nil
 | _,_,.cons (c:=c) h l p r,hn=>.cons (by rw[bx (fun e=>hn (.ref c) PN (by rw[e]))]; exact h) l (p.bj (bR hD)) (cB.keep hD r fun u hu=>hn u (Qc _ hu))
theorem take_one {α:Type} {xs:List α} {i:Nat} {x:α} (h:xs[i]? = some x):xs.take (i+1)=xs.take i++[x]:=by
 rw[Qz,h]
 rfl
abbrev nJ:Stmt:=top 18
theorem yE:aX ["book","floor","one"] ["book","floor","one"] (aJ nJ):=⟨rfl,rfl,rfl,by decide+kernel,rfl,by decide+kernel,by decide+kernel⟩
def lV (bk:List (List Pl)) (k:Nat):List (List Pl):=bk.set k []
theorem bH (bk:List (List Pl)) (k:Nat):(lV bk k).length=bk.length:=List.length_set
theorem mO {bk:List (List Pl)} {k i:Nat} (h:i < bk.length):(lV bk k)[i]? = some (if i=k then [] else bk[i]):=by
 unfold lV
 rw[List.getElem?_set]
 by_cases e:k=i
 ·subst e
  rw[if_pos rfl,if_pos h,if_pos rfl]
 ·rw[if_neg e,if_neg (Tu e),Px h]
theorem pQ {bk:List (List Pl)} {k:Nat} (ok:okB bk):okB (lV bk k):=fun ps h p hp=>by
 obtain⟨i,hi,rfl⟩:=RP h
 rw[bH] at hi
 have e:=mO (k:=k) hi
 rw[Px (by rw[bH]; exact hi)] at e
 rw[QC e] at hp
 by_cases z:i=k
 ·rw[if_pos z] at hp
  cases hp
 ·rw[if_neg z] at hp
  exact ok _ (Q9 hi) p hp
inductive pA (vs:List V) (H:Hp) (Q:VK):Prop where
 | mk (b f:Addr) (n k:Nat) (bk:List (List Pl)) (fl:List Int) (z0:vs=[.ref b,.ref f,.int (k:Int)]) (z1:nZ n H b bk) (z2:bk.length=n) (z3:H f=some (.tup (fl.map V.int))) (z4:okG n fl) (z5:∀ (m:Nat) (a:Addr) (H':Hp),Stops (Fd fl (lV bk k)) (rfF fl (lV bk k)) m->aM H H'->H' a=some (.tup ((itF (Fd fl (lV bk k)) (rfF fl (lV bk k)) m).map V.int))->Q (.ref a) H'):pA  vs H Q
def qT:Sp:=fun vs H Q _=>pA  vs H Q
theorem yH {k:Nat} (F:Fun K "without" "without" nJ f fd) (B:Bt mg)
  (D_greatest:Df P w K mg base "greatest" k ["book","floor"] (ud rfF)):eX P w K mg base CX0 (k+1) f fd ["book","floor","one"] qT:=by
 refine F.ok yE (fun vs H Q E h=>?_) (fun cdv A outer s H vs Q E hr h=>?_)
 ·obtain⟨b,f,n,k,bk,fl,rfl,_⟩:=h
  rfl
 ·obtain⟨b,f,n,k,bk,fl,rfl,hB,lb,hf,of,q⟩:=h
  refine⟨_,(aC (aL (aY D_greatest hr (aa (bA (L:=["other","pledges"]) (F:=["one"]) (cap:=[2]) rfl (bu rfl rfl (by kernel_rfl)) (Di rfl B.enumerate_ (aa (pv 0) aq)) (fun _ _ _ _ _=>(eE (K:=K) 2 rfl rfl (aZ (aG (i:=0) (aO (by decide+kernel)) rfl (Qi rfl)) (aZ (aG (i:=1) (aO (by decide+kernel)) rfl (Qi rfl)) dR)))) (fun _ _ _ _ _=>bC) (fun _ _ _ _ _=>(wB (aV gA (pv 0) (pv 2) (bf _)) (bK aq) (pv 1)))) (aa (pv 1) aq))))),?_⟩
  obtain⟨us,hb,rb,l12⟩:=id hB
  have lu:=rb.length
  refine⟨_,rfl,b,us,rfl,hb,fun D hD=>BX (K:=K) (a:=b) (xs:=us) (fun i zs σ' H2=>(∃ u v,σ'=[u,v,some (.int (k:Int))])/\aM H H2/\H2 D=some (.lst zs)/\(∀ u∈zs,u≠.ref D)/\cB n H2 zs ((lV bk k).take i))
   ⟨⟨_,_,rfl⟩,au hD _,aj,by simp,.nil⟩ (fun i zs σ' H2 _ h=>⟨SqL.of (h.2.1 _ _ hb),h.2.2.1⟩) ?_ ?_⟩
  ·rintro i zs x p σ' H2 hx hp ⟨⟨u,v,rfl⟩,sm,eD,hne,rz⟩
   obtain⟨c,as,ps,rfl,hps,hc,l100,rps⟩:=rb.get hx
   have hi:=(List.getElem?_eq_some_iff.mp hx).1
   have hib:i < bk.length:=by lia
   have lz:=rz.length
   rw[Qh,bH] at lz
   have zs1:zs.length < 1000:=by lia
   generalize eH3:upd H2 p _=H3
   obtain⟨g3,e3⟩:=aH eH3 hp
   have s3:aM H H3:=sm.trans g3
   have ta:=mO (k:=k) hib
   have cD:∀ {a:Addr} {o:HO},H a=some o->V.ref a≠V.ref D:=fun h z=>by cases z; rw[hD] at h; cases h
   refine⟨p,_,rfl,SqT.of e3,rfl,_,_,rfl,_,_,rfl,rfl,?_⟩
   refine tT ?_
   refine⟨_,rfl,_,rfl,rfl,_,rfl,?_⟩
   by_cases e:i=k
   ·subst e
    rw[if_pos rfl] at ta
    rw[decide_eq_true rfl]
    refine jt ⟨small (by show 0<=1000; decide),fun l hl=>?_⟩
    have sn:=au hl (.lst [])
    have hlD:l≠D:=fun z=>by rw[z,g3 _ _ eD] at hl; cases hl
    refine⟨sn _ _ (g3 _ _ eD),aD (by lia),⟨_,_,rfl⟩,aF (s3.trans sn) hD _,aj,?_,?_⟩
    ·intro u hu
     rcases List.mem_append.mp hu with h | h
     ·exact hne u h
     ·rw[List.mem_singleton.mp h]
      exact fun z=>hlD (by cases z; rfl)
    ·rw[take_one ta]
     refine cB.keep (sn _ _ (g3 _ _ eD)) ((rz.mono (g3.trans sn)).snoc (as:=[]) aj (Qw _) .nil) fun u hu=>?_
     rcases List.mem_append.mp hu with h | h
     ·exact hne u h
     ·rw[List.mem_singleton.mp h]
      exact fun z=>hlD (by cases z; rfl)
   ·rw[if_neg e] at ta
    rw[decide_eq_false (fun z=>e (by cases z; rfl))]
    refine gq ⟨_,rfl,g3 _ _ eD,aD (by lia),⟨_,_,rfl⟩,aF s3 hD _,aj,?_,?_⟩
    ·intro u hu
     rcases List.mem_append.mp hu with h | h
     ·exact hne u h
     ·rw[List.mem_singleton.mp h]
      exact cD hc
    ·rw[take_one ta,show bk[i]=ps by rw[Px hib] at hps; exact QC hps]
     refine cB.keep (g3 _ _ eD) ((rz.mono g3).snoc (s3 _ _ hc) l100 (rps.bj fun a xs q=>s3 a _ q)) fun u hu=>?_
     rcases List.mem_append.mp hu with h | h
     ·exact hne u h
     ·rw[List.mem_singleton.mp h]
      exact cD hc
  ·rintro zs σ' H2 ⟨_,sm,eD,hne,rz⟩
   rw[show us.length=(lV bk k).length by rw[bH]; exact lu,Qg] at rz
   exact⟨_,rfl,D,f,n,lV bk k,fl,rfl,⟨zs,eD,rz,by rw[bH]; exact l12⟩,by rw[bH]; exact lb,sm _ _ hf,of,fun m a H' _ st s1 ea=>q m a H' st (sm.trans s1) ea⟩
def oR (k:Nat) (hi lo:List Int):List Nat:=(PL lo.length).filter fun j=>decide (j≠k) && decide (lo.getD j 0 < hi.getD j 0)
abbrev Cj:Stmt:=top 19
theorem uH:aX ["book","floor","one","whole","left"] ["book","floor","one"] (aJ Cj):=⟨rfl,rfl,rfl,by decide+kernel,rfl,by decide+kernel,by decide+kernel⟩
inductive zO (vs:List V) (H:Hp) (Q:VK):Prop where
 | mk (b f:Addr) (n k:Nat) (bk:List (List Pl)) (fl:List Int) (z0:vs=[.ref b,.ref f,.int (k:Int)]) (z1:nZ n H b bk) (z2:bk.length=n) (z3:H f=some (.tup (fl.map V.int))) (z4:okG n fl) (z5:∀ (m m':Nat) (r:Addr) (H':Hp),Stops (Fd fl bk) (rfF fl bk) m->Stops (Fd fl (lV bk k)) (rfF fl (lV bk k)) m'->aM H H'->H r=none->H' r=some (.lst ((oR k (itF (Fd fl bk) (rfF fl bk) m) (itF (Fd fl (lV bk k)) (rfF fl (lV bk k)) m')).map vN))->Q (.ref r) H'):zO  vs H Q
def Hg:Sp:=fun vs H Q _=>zO  vs H Q
theorem tM {p:Nat->Bool} (i:Nat):(PL (i+1)).filter p=(PL i).filter p++if p i=true then [i] else []:=by
 rw[Sw,V6]
 congr 1
 by_cases h:p i=true
 ·rw[if_pos h,List.filter_cons_of_pos h]; rfl
 ·rw[if_neg h,List.filter_cons_of_neg h]; rfl
theorem JD {k:Nat} (F:Fun K "lost" "lost" Cj f fd) (B:Bt mg)
  (D_greatest:Df P w K mg base "greatest" k ["book","floor"] (ud rfF)) (D_without:Df P w K mg base "without" (k+1) ["book","floor","one"] qT):eX P w K mg base CX0 (k+2) f fd ["book","floor","one"] Hg:=by
 refine F.ok uH (fun vs H Q E h=>?_) (fun cdv A outer s H vs Q E hr h=>?_)
 ·obtain⟨b,f,n,k,bk,fl,rfl,_⟩:=h
  rfl
 ·obtain⟨b,f,n,k,bk,fl,rfl,hB,lb,hf,of,q⟩:=h
  refine⟨_,(aA (aR (i:=3) uH.nd rfl (Wg rfl) (aY D_greatest hr (aa (pv 0) (aa (pv 1) aq))))
 (aA (aR (i:=4) uH.nd rfl (Qi rfl) (aY D_without hr (aa (pv 0) (aa (pv 1) (aa (pv 2) aq)))))
 (aC (aL (bA (L:=["other","step"]) (F:=["one","whole"]) (cap:=[2,3]) rfl (bu rfl rfl (by kernel_rfl)) (qL rfl B.enumerate_ (aa (pv 4) aq)) (fun _ _ _ _ _=>(eE (K:=K) 2 rfl rfl (aZ (aG (i:=0) (aO (by decide+kernel)) rfl (Qi rfl)) (aZ (aG (i:=1) (aO (by decide+kernel)) rfl (Qi rfl)) dR)))) (fun _ _ _ _ _=>(vp (PW.pt (sI (aV J7 (pv 0) (pv 2) (bf _)) (m5 (aV Cd (pv 1) (bh (r:=jN K) bW (pv 3) (pv 0) (fun _ _=>rfl)) (bf _))))))) (fun _ _ _ _ _=>(pv 0))))))),?_⟩
  have okb:=hB.okB
  refine⟨_,rfl,_,rfl,b,f,n,bk,fl,rfl,hB,lb,hf,of,fun m hi H1 _ st s1 e1=>?_⟩
  refine⟨_,rfl,_,rfl,_,rfl,b,f,n,k,bk,fl,rfl,hB.mono s1,lb,s1 _ _ hf,of,fun m' lo H2 st' s2 e2=>?_⟩
  have o1:=dG lb okb of (dB lb okb of) m
  have o2:=dG (by rw[bH]; exact lb) (pQ (k:=k) okb) of (dB (by rw[bH]; exact lb) (pQ (k:=k) okb) of) m'
  have q':=fun r H'=>q m m' r H' st st'
  clear q
  generalize itF (Fd fl bk) (rfF fl bk) m=gh at *
  generalize itF (Fd fl (lV bk k)) (rfF fl (lV bk k)) m'=gl at *
  have s12:aM H H2:=s1.trans s2
  refine⟨_,rfl,lo,_,rfl,SqT.of e2,fun D hD=>jZ (K:=K) (a:=lo) (xs:=gl.map V.int) (fun i zs σ' H3=>(∃ u v,σ'=[u,v,some (.int (k:Int)),some (.ref hi)])/\aM H2 H3/\H3 D=some (.lst zs)/\zs=((PL i).filter fun j=>decide (j≠k) && decide (gl.getD j 0 < gh.getD j 0)).map vN)
   ⟨⟨_,_,rfl⟩,au hD _,aj,rfl⟩ (fun i zs σ' H3 _ h=>⟨SqT.of (h.2.1 _ _ e2),h.2.2.1⟩) ?_ ?_⟩
  ·rintro i zs x p σ' H3 hx hp ⟨⟨u,v,rfl⟩,sm,eD,ez⟩
   obtain⟨y,hy,rfl⟩:=int_at hx
   have hin:=(List.getElem?_eq_some_iff.mp hy).1
   generalize eH4:upd H3 p _=H4
   obtain⟨g4,e4⟩:=aH eH4 hp
   have s4:aM H2 H4:=sm.trans g4
   refine⟨p,_,rfl,SqT.of e4,rfl,_,_,rfl,_,_,rfl,rfl,?_⟩
   have ef:=tM (p:=fun j=>decide (j≠k) && decide (gl.getD j 0 < gh.getD j 0)) i
   have gy:gl.getD i 0=y:=by rw[Pz,hy]; rfl
   have hih:i < gh.length:=by rw[o1.1,← o2.1]; exact hin
   have gi:gh.getD i 0=gh[i]:=by rw[Pz,Px hih]; rfl
   have lz:zs.length<=i:=by
    rw[ez,Pq]
    exact Q0 (Tc _ _) (by rw[Qn]; exact PK _)
   have l100:i<=1000:=by
    obtain⟨_,_,_,h⟩:=hB
    have:=o2.1
    lia
   refine⟨_,rfl,_,rfl,rfl,_,rfl,?_⟩
   by_cases e:i=k
   ·subst e
    rw[decide_eq_true rfl]
    refine gq (gq ⟨⟨_,_,rfl⟩,s4,g4 _ _ eD,?_⟩)
    rw[ef,if_neg (by simp),Sx]
    exact ez
   ·rw[decide_eq_false (fun z=>e (by cases z; rfl))]
    refine jt ⟨_,rfl,_,rfl,_,rfl,hi,_,_,_,rfl,rfl,SqT.of ((s2.trans s4) _ _ e1),o5 hih,_,_,rfl,rfl,_,rfl,?_⟩
    by_cases c:y < gh[i]
    ·rw[decide_eq_true c]
     refine jt ⟨_,rfl,g4 _ _ eD,aD (by lia),⟨_,_,rfl⟩,aF s4 hD _,aj,?_⟩
     rw[ef,if_pos (by rw[gy,gi]; simp [e,c]),PJ,← ez]
     rfl
    ·rw[decide_eq_false c]
     refine gq ⟨⟨_,_,rfl⟩,s4,g4 _ _ eD,?_⟩
     rw[ef,if_neg (by rw[gy,gi]; simp [e,c]),Sx]
     exact ez
  ·rintro zs σ' H3 ⟨_,sm,eD,ez⟩
   rw[Pq] at ez
   exact q' D H3 (s12.trans sm) (s12.free hD) (by rw[eD,ez]; rfl)
def mvP (rs:List Nat) (p:Pl):Pl:=p.map fun x=>(x.1,ren (dg rs) x.2)
def mvB (n:Nat) (rs:List Nat) (bk:List (List Pl)):List (List Pl):=(PL n).map fun j=>(bk.getD (ixP rs j) []).map (mvP rs)
def PlN (n:Nat) (bk:List (List Pl)):Prop:=∀ ps∈bk,∀ p∈ps,∀ x∈p,∃ (H:Hp) (v:V),iT n H v x.2
theorem dF.names {n:Nat} {H:Hp}:∀ {vs:List V} {p:Pl},dF n H vs p->∀ x∈p,∃ (H:Hp) (v:V),iT n H v x.2
 | _,_,.nil,x,h=>by cases h
 | _,_,.cons _ t r,x,h=>by
  rcases List.mem_cons.mp h with e | e
  ·rw[e]
   exact⟨_,_,t⟩
  ·exact dF.names r x e
theorem dH.names {n:Nat} {H:Hp}:∀ {as:List Addr} {ps:List Pl},dH n H as ps->∀ p∈ps,∀ x∈p,∃ (H:Hp) (v:V),iT n H v x.2
 | _,_,.nil,p,h=>by cases h
 | _,_,.cons a r,p,h=>by
  rcases List.mem_cons.mp h with e | e
  ·rw[e]
   obtain⟨_,vs,_,r'⟩:=a
   exact r'.names
  ·exact dH.names r p e
theorem cB.names {n:Nat} {H:Hp}:∀ {us:List V} {bk:List (List Pl)},cB n H us bk->PlN n bk
 | _,_,.nil,ps,h=>by cases h
 | _,_,.cons _ _ p r,ps,h=>by
  rcases List.mem_cons.mp h with e | e
  ·rw[e]
   exact p.names
  ·exact cB.names r ps e
theorem nZ.names {n:Nat} {H:Hp} {b:Addr} {bk:List (List Pl)} (h:nZ n H b bk):PlN n bk:=by
 obtain⟨_,_,r,_⟩:=h
 exact r.names
theorem HD {n:Nat} {rs:List Nat} {g g':List Int} (hg:∀ i < n,g'.getD (dg rs i) 0=g.getD i 0):∀ (p:Pl) (f:Int),(∀ x∈p,∃ (H:Hp) (v:V),iT n H v x.2)->(mvP rs p).foldl (owS g') f=p.foldl (owS g) f
 | [],_,_=>rfl
 | x::p,f,h=>by
  show (mvP rs p).foldl (owS g') (owS g' f (x.1,ren (dg rs) x.2))=p.foldl (owS g) (owS g f x)
  have e:owS g' f (x.1,ren (dg rs) x.2)=owS g f x:=by
   obtain⟨_,_,t⟩:=h x PN
   unfold owS
   rw[BR hg t]
  rw[e]
  exact HD hg p _ fun y hy=>h y (Qc _ hy)
theorem Mu {n:Nat} {rs:List Nat} {g g':List Int} (hg:∀ i < n,g'.getD (dg rs i) 0=g.getD i 0) {ps:List Pl} (h:∀ p∈ps,∀ x∈p,∃ (H:Hp) (v:V),iT n H v x.2) (f:Int):duF g' f (ps.map (mvP rs))=duF g f ps:=by
 unfold duF
 rw[RL]
 exact congrArg (fun l=>Vn max f l) (Sy fun p hp=>HD hg p 0 (h p hp))
theorem Ko (rs:List Nat) (p:Pl):lsF (mvP rs p)=lsF p:=by
 unfold lsF mvP
 rw[RL]
 rfl
theorem K8 (rs:List Nat) (ps:List Pl) (f:Int):rfS f (ps.map (mvP rs))=rfS f ps:=by
 unfold rfS
 rw[RL]
 exact congrArg (fun l=>Vn max f l) (Sy fun p _=>Ko rs p)
section
variable {n:Nat} {rs:List Nat} {bk:List (List Pl)} {fl lo hi:List Int}
theorem Dv {a b:List Int} (ha:a.length=n) (hb:b.length=n) (h:∀ i < n,a.getD i 0=b.getD i 0):a=b :=
 fD (by lia) (oH ha hb fun i hi=>by rw[h i hi]; exact Rx _) (oH hb ha fun i hi=>by rw[h i hi]; exact Rx _)
theorem fc (g:List Int):(cj n rs g).length=n:=by unfold cj; rw[Pq,Qn]
theorem fj (g:List Int) {j:Nat} (hj:j < n):(cj n rs g).getD j 0=g.getD (ixP rs j) 0:=by
 unfold cj
 rw[Pz,Qj,RG hj]
 rfl
theorem bO:(mvB n rs bk).length=n:=by unfold mvB; rw[Pq,Qn]
theorem CW {j:Nat} (hj:j < n):(mvB n rs bk).getD j []=(bk.getD (ixP rs j) []).map (mvP rs):=by
 unfold mvB
 rw[Pz,Qj,RG hj]
 rfl
theorem lM (h:rs.Perm (PL n)) {j:Nat} (hj:j < n):ixP rs j < n:=by
 have:=La h (ixP rs j) (List.mem_map.mpr ⟨j,List.mem_range.mpr hj,rfl⟩)
 exact this
theorem jD (h:rs.Perm (PL n)) {j:Nat} (hj:j < n):dg rs (ixP rs j)=j:=by
 obtain⟨_,_,_,hm⟩:=cQ h
 unfold dg
 rw[Pz,(rN (hm j hj)).1]
 rfl
theorem lH (h:rs.Perm (PL n)) {i:Nat} (hi:i < n):ixP rs (dg rs i)=i:=by
 obtain⟨nd,hl,hv,_⟩:=cQ h
 rw[Cr hl hi]
 exact HJ nd (by lia)
theorem Dh (h:rs.Perm (PL n)) {i:Nat} (hi:i < n):dg rs i < n:=by
 obtain⟨_,hl,hv,_⟩:=cQ h
 exact hv _ (qu (by lia))
theorem Eu (hn:PlN n bk) (i:Nat):∀ p∈bk.getD i [],∀ x∈p,∃ (H:Hp) (v:V),iT n H v x.2:=fun p hp=>by
 by_cases h:i < bk.length
 ·rw[Pz,Px h] at hp
  exact hn _ (Q9 h) p hp
 ·rw[Pz,Rg (by lia)] at hp
  cases hp
theorem jq (h:rs.Perm (PL n)) {g:List Int} (hg:okG n g):okG n (cj n rs g) :=
 o8 (fc g) fun i hi=>by rw[fj g hi]; exact dw hg (lM h hi)
theorem GF {p:Pl} (h:okP p):okP (mvP rs p):=by
 obtain⟨h1,h2,h3,h4⟩:=h
 refine⟨fun z=>h1 (List.map_eq_nil_iff.mp z),by unfold mvP; rw[Pq]; exact h2,?_,fun x hx=>?_⟩
 ·unfold mvP
  rw[RL]
  exact h3
 ·obtain⟨y,hy,rfl⟩:=List.mem_map.mp hx
  obtain⟨a,b,c⟩:=h4 y hy
  exact⟨a,b,by show (ren (dg rs) y.2).dep<=4; rw[uz]; exact c⟩
theorem pF (ok:okB bk):okB (mvB n rs bk):=fun ps hps p hp=>by
 obtain⟨j,_,rfl⟩:=List.mem_map.mp hps
 obtain⟨p0,h0,rfl⟩:=List.mem_map.mp hp
 refine GF ?_
 by_cases h:ixP rs j < bk.length
 ·rw[Pz,Px h] at h0
  exact ok _ (Q9 h) p0 h0
 ·rw[Pz,Rg (by lia)] at h0
  cases h0
theorem xO (h:rs.Perm (PL n)) (hb:bk.length=n) (ok:okB bk) (hn:PlN n bk) (hf:okG n fl) (g:List Int):eV (cj n rs g) (cj n rs fl) (mvB n rs bk)=cj n rs (eV g fl bk):=by
 have of':=jq h hf
 refine Dv (fK bO (pF ok) of' _).1 (fc _) fun i hi=>?_
 rw[iY bO of' _ hi,fj _ hi,fj _ hi,CW hi,Mu (mW h g) (Eu hn _),iY hb hf g (lM h hi)]
theorem MF {fl:List Int} (hb:bk.length=n) (hf:fl.length=n) {i:Nat} (hi:i < n):(rfF fl bk).getD i 0=rfS (fl.getD i 0) (bk.getD i []):=by
 have h1:i < fl.length:=by lia
 have h2:i < bk.length:=by lia
 unfold rfF
 rw[fG _ h1 h2,DN h2]
theorem Fl (h:rs.Perm (PL n)) (hb:bk.length=n) (ok:okB bk) (hf:okG n fl):rfF (cj n rs fl) (mvB n rs bk)=cj n rs (rfF fl bk):=by
 have of':=jq h hf
 refine Dv (dB bO (pF ok) of').1 (fc _) fun i hi=>?_
 rw[MF bO of'.1 hi,fj _ hi,fj _ hi,CW hi,K8,MF hb hf.1 (lM h hi)]
theorem yM (h:rs.Perm (PL n)) (hb:bk.length=n) (ok:okB bk) (hn:PlN n bk) (hf:okG n fl) (x:List Int):∀ k,itF (Fd (cj n rs fl) (mvB n rs bk)) (cj n rs x) k=cj n rs (itF (Fd fl bk) x k)
 | 0=>rfl
 | k+1=>by
  show eV (itF (Fd (cj n rs fl) (mvB n rs bk)) (cj n rs x) k) (cj n rs fl) (mvB n rs bk)=cj n rs (eV (itF (Fd fl bk) x k) fl bk)
  rw[yM h hb ok hn hf x k,xO h hb ok hn hf]
theorem Bg (h:rs.Perm (PL n)) {a b:List Int} (ha:a.length=n) (hb:b.length=n) (e:cj n rs a=cj n rs b):a=b:=Dv ha hb fun i hi=>by rw[← mW h a i hi,← mW h b i hi,e]
theorem mj (h:rs.Perm (PL n)) (hb:bk.length=n) (ok:okB bk) (hn:PlN n bk) (hf:okG n fl) {x:List Int} (hx:okG n x) {m:Nat} (st:Stops (Fd fl bk) x m):Stops (Fd (cj n rs fl) (mvB n rs bk)) (cj n rs x) m:=by
 refine⟨?_,fun j hj e=>?_⟩
 ·rw[yM h hb ok hn hf]
  show eV (cj n rs (itF (Fd fl bk) x m)) (cj n rs fl) (mvB n rs bk)=_
  rw[xO h hb ok hn hf,show eV (itF (Fd fl bk) x m) fl bk=itF (Fd fl bk) x m from st.1]
 ·rw[yM h hb ok hn hf] at e
  have e:eV (cj n rs (itF (Fd fl bk) x j)) (cj n rs fl) (mvB n rs bk)=cj n rs (itF (Fd fl bk) x j):=e
  rw[xO h hb ok hn hf] at e
  exact st.2 j hj (Bg h (fK hb ok hf _).1 (dG hb ok hf hx j).1 e)
theorem Aj (h:rs.Perm (PL n)) (hb:bk.length=n) (ok:okB bk) (hn:PlN n bk) (hf:okG n fl) (x:List Int) (m:Nat):cT (Fd (cj n rs fl) (mvB n rs bk)) (cj n rs x) m=(cT (Fd fl bk) x m).map (cj n rs):=by
 unfold cT
 rw[RL]
 exact Sy fun k _=>yM h hb ok hn hf x k
theorem Aa (h:rs.Perm (PL n)) (hb:bk.length=n) (ok:okB bk) (hn:PlN n bk) (hf:okG n fl) (hl:Low n fl bk lo):Low n (cj n rs fl) (mvB n rs bk) (cj n rs lo):=by
 obtain⟨m,_,st⟩:=kI hb ok hf
 have e:=(dq hb ok hf st).uniq hl
 have l:=dq bO (pF ok) (jq h hf) (mj h hb ok hn hf hf st)
 rw[yM h hb ok hn hf,e] at l
 exact l
theorem Bb (h:rs.Perm (PL n)) (hb:bk.length=n) (ok:okB bk) (hn:PlN n bk) (hf:okG n fl) (hh:Ke n fl bk hi):Ke n (cj n rs fl) (mvB n rs bk) (cj n rs hi):=by
 obtain⟨m,_,st⟩:=jO hb ok hf
 have e:=(bJ hb ok hf st).uniq hh
 have st':=mj h hb ok hn hf (dB hb ok hf) st
 rw[← Fl h hb ok hf] at st'
 have l:=bJ bO (pF ok) (jq h hf) st'
 rw[Fl h hb ok hf,yM h hb ok hn hf,e] at l
 exact l
theorem Ae (h:rs.Perm (PL n)) {a b:List Int} (ha:a.length=n) (hb:b.length=n):LeG (cj n rs a) (cj n rs b) ↔ LeG a b:=by
 constructor
 ·intro l
  refine oH ha hb fun i hi=>?_
  rw[← mW h a i hi,← mW h b i hi]
  exact l _
 ·intro l
  refine oH (fc a) (fc b) fun i hi=>?_
  rw[fj a hi,fj b hi]
  exact l _
def Kc (n:Nat) (rs:List Nat) (w:List Int):List Int:=(PL n).map fun i=>w.getD (dg rs i) 0
theorem HY (w:List Int):(Kc n rs w).length=n:=by unfold Kc; rw[Pq,Qn]
theorem zN (w:List Int) {i:Nat} (hi:i < n):(Kc n rs w).getD i 0=w.getD (dg rs i) 0:=by
 unfold Kc
 rw[Pz,Qj,RG hi]
 rfl
theorem Il (h:rs.Perm (PL n)) {w:List Int} (hw:w.length=n):cj n rs (Kc n rs w)=w:=Dv (fc _) hw fun i hi=>by rw[fj _ hi,zN _ (lM h hi),jD h hi]
theorem MJ (h:rs.Perm (PL n)) {w:List Int} (hw:okG n w):okG n (Kc n rs w):=o8 (HY w) fun i hi=>by rw[zN w hi]; exact dw hw (Dh h hi)
theorem HF (h:rs.Perm (PL n)) (hb:bk.length=n) (ok:okB bk) (hn:PlN n bk) (hf:okG n fl) (hl:okG n lo) {c d:List Nat} (hcd:∀ i < n,dg rs i∈d ↔ i∈c) {z:List Int} (hz:okG n z):InS n (cj n rs fl) (mvB n rs bk) (cj n rs lo) d (cj n rs z) ↔ InS n fl bk lo c z:=by
 have e:=xO h hb ok hn hf z
 constructor
 ·rintro⟨_,h2,h3,h4⟩
  rw[e] at h4
  refine⟨hz,fun i hi hc=>?_,(Ae h hl.1 hz.1).mp h3,(Ae h hz.1 (fK hb ok hf z).1).mp h4⟩
  have:=h2 (dg rs i) (Dh h hi) fun q=>hc ((hcd i hi).mp q)
  rw[mW h z i hi,mW h lo i hi] at this
  exact this
 ·rintro⟨_,h2,h3,h4⟩
  refine⟨jq h hz,fun i hi hd=>?_,(Ae h hl.1 hz.1).mpr h3,by rw[e]; exact (Ae h hz.1 (fK hb ok hf z).1).mpr h4⟩
  rw[fj z hi,fj lo hi]
  refine h2 _ (lM h hi) fun q=>hd ?_
  have:=(hcd _ (lM h hi)).mpr q
  rw[jD h hi] at this
  exact this
theorem Jr (h:rs.Perm (PL n)) (hb:bk.length=n) (ok:okB bk) (hn:PlN n bk) (hf:okG n fl) (hl:Low n fl bk lo) {c d:List Nat} (hcd:∀ i < n,dg rs i∈d ↔ i∈c):al n (cj n rs fl) (mvB n rs bk) (cj n rs lo) d=cj n rs (al n fl bk lo c):=by
 have m:=dI hb ok hf hl c
 refine (J6 bO (pF ok) (jq h hf) (Aa h hb ok hn hf hl) ⟨(HF h hb ok hn hf hl.1 hcd m.1.1).mpr m.1,fun w hw=>?_⟩).symm
 have ob:=MJ h hw.1
 have e:=Il h hw.1.1
 rw[← e] at hw
 rw[← e]
 exact (Ae h ob.1 m.1.1.1).mpr (m.2 _ ((HF h hb ok hn hf hl.1 hcd ob).mp hw))
theorem Al (h:rs.Perm (PL n)) (hb:bk.length=n) (ok:okB bk) (hn:PlN n bk) (hf:okG n fl) (hl:Low n fl bk lo) {c d:List Nat} (hc:∀ i∈c,i < n) (hd:∀ i∈d,i < n) (hcd:∀ i < n,dg rs i∈d ↔ i∈c):Knot n (cj n rs fl) (mvB n rs bk) (cj n rs lo) d ↔ Knot n fl bk lo c:=by
 have inj:∀ {a:List Nat},(cj n rs (al n fl bk lo a)=cj n rs lo ↔ al n fl bk lo a=lo):=fun {a}=>⟨fun e=>Bg h (ie hb ok hf hl a) hl.1.1 e,fun e=>by rw[e]⟩
 have sub:∀ k < n,∀ i < n,dg rs i∈(d.filter fun i=>decide (i≠dg rs k)) ↔ i∈(c.filter fun i=>decide (i≠k)):=fun k hk i hi=>by
  rw[VB,VB,hcd i hi,decide_eq_true_iff,decide_eq_true_iff]
  refine and_congr_right fun _=>not_congr ⟨fun e=>?_,fun e=>by rw[e]⟩
  rw[← lH h hi,← lH h hk,e]
 unfold Knot
 rw[Jr h hb ok hn hf hl hcd]
 refine and_congr (not_congr inj) ⟨fun q k hk=>?_,fun q one ho=>?_⟩
 ·have hk':=hc k hk
  have:=q (dg rs k) ((hcd k hk').mpr hk)
  rw[Jr h hb ok hn hf hl (sub k hk')] at this
  exact inj.mp this
 ·have ho':=hd one ho
  have hx:=lM h ho'
  have e:=jD h ho'
  have:=q (ixP rs one) ((hcd _ hx).mp (by rw[e]; exact ho))
  have s:=sub _ hx
  rw[e] at s
  rw[Jr h hb ok hn hf hl s]
  exact inj.mpr this
def mvC (rs c:List Nat):List Nat:=mz (c.map (dg rs))
theorem qU (h:rs.Perm (PL n)) {c:List Nat} (hc:∀ i∈c,i < n) (hp:c.Pairwise (· < ·)):(mvC rs c).Pairwise (· < ·)/\(∀ i∈mvC rs c,i < n)/\∀ i < n,dg rs i∈mvC rs c ↔ i∈c:=by
 obtain⟨nd,hl,hv,_⟩:=cQ h
 have mem:∀ i,i∈mvC rs c ↔ ∃ k∈c,dg rs k=i:=fun i=>by
  unfold mvC
  rw[(cC _).mem_iff,List.mem_map]
 refine⟨?_,fun i hi=>?_,fun i hi=>?_⟩
 ·have nd':(c.map (dg rs)).Nodup:=by
   show (c.map (dg rs)).Pairwise (·≠·)
   rw[RK]
   refine Tr (fun {a b} ha hb hab e=>?_) hp
   have:=lH h (hc a ha)
   rw[e,lH h (hc b hb)] at this
   lia
  have ndS:(mvC rs c).Nodup:=(cC _).nodup_iff.mpr nd'
  exact ((dX _).and ndS).imp fun q=>by lia
 ·obtain⟨k,hk,e⟩:=(mem i).mp hi
  rw[← e]
  exact Dh h (hc k hk)
 ·rw[mem]
  constructor
  ·rintro⟨k,hk,e⟩
   have:=lH h (hc k hk)
   rw[e,lH h hi] at this
   rw[this]
   exact hk
  ·exact fun q=>⟨i,q,rfl⟩
theorem Fj (h:rs.Perm (PL n)) {c:List Nat} (hc:∀ i∈c,i < n) (hp:c.Pairwise (· < ·)):mvC rs (mz (c.map (ixP rs)))=c:=Ei (fun i hi=>jD h hi) hc hp
theorem Iw (h:rs.Perm (PL n)) {c d:List Nat} (hc:∀ i∈c,i < n) (hp:c.Pairwise (· < ·)) (hd:∀ i∈d,i < n) (hq:d.Pairwise (· < ·)) (e:mvC rs c=mvC rs d):c=d:=by
 rw[← di hp hc,← di hq hd]
 refine Wc fun i hi=>?_
 have hi:=List.mem_range.mp hi
 have:=((qU h hc hp).2.2 i hi).symm.trans ((by rw[e]:dg rs i∈mvC rs c ↔ dg rs i∈mvC rs d).trans ((qU h hd hq).2.2 i hi))
 by_cases q:i∈c
 ·rw[decide_eq_true q,decide_eq_true (this.mp q)]
 ·rw[decide_eq_false q,decide_eq_false fun z=>q (this.mpr z)]
theorem Dy (h:rs.Perm (PL n)) (hb:bk.length=n) (ok:okB bk) (hn:PlN n bk) (hf:okG n fl) (hl:Low n fl bk lo) {ks js:List (List Nat)} (hk:eQ n fl bk ks) (mem:∀ d,d∈js ↔ ∃ c∈ks,mvC rs c=d) (srt:js.Pairwise fun c d=>HT.lexLt (iN c) (iN d)=true):eQ n (cj n rs fl) (mvB n rs bk) js:=by
 have low':=Aa h hb ok hn hf hl
 refine⟨fun lo' hlo' d=>?_,srt⟩
 rw[hlo'.uniq low',mem]
 constructor
 ·rintro⟨c,hc,rfl⟩
  obtain⟨h1,h2,h3⟩:=(hk.1 lo hl c).mp hc
  obtain⟨m1,m2,m3⟩:=qU h h2 h1
  exact⟨m1,m2,(Al h hb ok hn hf hl h2 m2 m3).mpr h3⟩
 ·rintro⟨h1,h2,h3⟩
  have eb:=Fj h h2 h1
  have inv:∀ i∈mz (d.map (ixP rs)),i < n:=fun i hi=>by
   obtain⟨k,hk',e⟩:=List.mem_map.mp ((cC _).mem_iff.mp hi)
   rw[← e]
   exact lM h (h2 k hk')
  have ris:(mz (d.map (ixP rs))).Pairwise (· < ·):=by
   have nd':(d.map (ixP rs)).Nodup:=by
    show (d.map (ixP rs)).Pairwise (·≠·)
    rw[RK]
    refine Tr (fun {a b} ha hb hab e=>?_) h1
    have:=jD h (h2 a ha)
    rw[e,jD h (h2 b hb)] at this
    lia
   exact ((dX _).and ((cC _).nodup_iff.mpr nd')).imp fun q=>by lia
  have m3:=(qU h inv ris).2.2
  rw[eb] at m3
  exact⟨_,(hk.1 lo hl _).mpr ⟨ris,inv,(Al h hb ok hn hf hl inv h2 m3).mp h3⟩,eb⟩
theorem Bw {c d:List Nat} (hc:∀ i∈c,i < n) (hp:c.Pairwise (· < ·)) (hd:∀ i∈d,i < n) (hq:d.Pairwise (· < ·)) (e:∀ i < n,i∈c ↔ i∈d):c=d:=by
 rw[← di hp hc,← di hq hd]
 refine Wc fun i hi=>?_
 have:=e i (List.mem_range.mp hi)
 by_cases q:i∈c
 ·rw[decide_eq_true q,decide_eq_true (this.mp q)]
 ·rw[decide_eq_false q,decide_eq_false fun z=>q (this.mpr z)]
theorem HR (h:rs.Perm (PL n)) (hb:bk.length=n) {k:Nat} (hk:k < n):mvB n rs (lV bk k)=lV (mvB n rs bk) (dg rs k):=by
 refine Xm fun j=>?_
 by_cases hj:j < n
 ·rw[mO (by rw[bO]; exact hj)]
  unfold mvB
  rw[Qj,RG hj,List.getElem_map,List.getElem_range]
  have hx:=lM h hj
  have ht:=mO (bk:=bk) (k:=k) (i:=ixP rs j) (by lia)
  show some (((lV bk k).getD (ixP rs j) []).map (mvP rs))=_
  rw[Pz,ht]
  by_cases e:ixP rs j=k
  ·have:j=dg rs k:=by rw[← e,jD h hj]
   rw[if_pos e,if_pos this]
   rfl
  ·have:j≠dg rs k:=fun z=>e (by rw[z,lH h hk])
   rw[if_neg e,if_neg this,DN (by lia)]
   rfl
 ·rw[Rg (by rw[bO]; lia),Rg (by rw[bH,bO]; lia)]
theorem JZ (h:rs.Perm (PL n)) {a b:List Int} (ha:a.length=n) (hb:b.length=n) {k:Nat} (hk:k < n):oR (dg rs k) (cj n rs a) (cj n rs b)=mvC rs (oR k a b):=by
 have mem:∀ {k:Nat} {a b:List Int},b.length=n->∀ i,i∈oR k a b ↔ i < n/\i≠k/\b.getD i 0 < a.getD i 0:=fun {k a b} hb i=>by
  unfold oR
  rw[VB,List.mem_range,hb,Ru,decide_eq_true_iff,decide_eq_true_iff]
 have ris:∀ {k:Nat} {a b:List Int},(oR k a b).Pairwise (· < ·):=List.pairwise_lt_range.filter _
 have lt:∀ i∈oR k a b,i < n:=fun i hi=>((mem hb i).mp hi).1
 obtain⟨m1,m2,m3⟩:=qU h lt ris
 refine Bw (fun i hi=>((mem (fc b) i).mp hi).1) ris m2 m1 fun i hi=>?_
 have hx:=lM h hi
 have e:=m3 _ hx
 rw[jD h hi] at e
 rw[e,mem hb,mem (fc b),fj a hi,fj b hi]
 refine⟨fun q=>⟨hx,fun z=>q.2.1 (by rw[← z,jD h hi]),q.2.2⟩,fun q=>⟨hi,fun z=>q.2.1 (by rw[z,lH h hk]),q.2.2⟩⟩
end
theorem Lz {X:Cx} {o e:Expr} {es:List Expr} {to:TE} {t:TA} {name:Rr} {apos cpos:Vk} {T id:String} {r:V->List V->Hp->VK->Prop} (K:Qp) (hK:X.K=K) (pa:PlainAttrs T) (slot:Slot T name id) (hty:typeOf (.builtin id)=pure (.type "method_descriptor")) (hm:MtR X id r) (ho:PE X o to) (ha:PA X (e::es) t)
  (hbase:attributeBase o name X.env (S6 o X.env)=S6 o X.env:=by rfl)
  (hfew:((Ul cpos (Qv (e::es) X.env)).all (fun x=>!x.1) && (backToKw cpos (keywordEach [] X.env)).all (fun x=>x.1.isSome)
   && decide ((e::es).length+([]:List Keyword).length+(if ([]:List Keyword).isEmpty then 0 else 1) < 30))=true:=by rfl)
  (hline:(apos.endLine == cpos.line)=true:=by rfl) (hs:Qv (e::es) X.env=(false,S6 e X.env)::Qv es X.env:=by rfl) (hplain:(Ul cpos (Qv es X.env)).any (·.1)=false:=by rfl) :
  PE X (.Call (.Attribute o name apos) (e::es) [] cpos) (tBM K T r to t):=by
 subst hK
 exact jX pa slot hty hm ho ha hbase hfew hline hs hplain
abbrev jk:Stmt:=top 41
theorem tu:aX ["_law_giving_here","_law_row"] ["_law_giving_here","_law_row"] (aJ jk):=⟨rfl,rfl,rfl,by decide+kernel,rfl,by decide+kernel,by decide+kernel⟩
inductive wD (vs:List V) (H:Hp) (Q:VK):Prop where
 | mk (g r:Addr) (n:Nat) (x:List Int) (rs:List Nat) (z0:vs=[.ref g,.ref r]) (z1:n<=12) (z2:H g=some (.tup (x.map V.int))) (z3:x.length=n) (z4:H r=some (.lst (rs.map vN))) (z5:rs.Perm (PL n)) (z6:∀ (a:Addr) (H':Hp),aM H H'->H' a=some (.tup ((cj n rs x).map V.int))->Q (.ref a) H'):wD  vs H Q
def zX:Sp:=fun vs H Q _=>wD  vs H Q
theorem ue (F:Fun K "_law_moved" "_law_moved" jk f fd) (B:Bt mg):eX P w K mg base CX0 1 f fd ["_law_giving_here","_law_row"] zX:=by
 refine F.ok tu (fun vs H Q E h=>?_) (fun cdv A outer s H vs Q E hr h=>?_)
 ·obtain⟨g,r,n,x,rs,rfl,_⟩:=h
  rfl
 ·obtain⟨g,r,n,x,rs,rfl,n12,hg,lx,hrw,pm,q⟩:=h
  refine⟨_,(aC (aL (bG (r:=fB K) bB rfl B.tuple_ bV (aa (bA (L:=["_law_one"]) (F:=["_law_giving_here","_law_row"]) (cap:=[0,1]) rfl (bu rfl rfl (by kernel_rfl)) (cG rfl B.range_ (aa (aK (r:=yR K) cI rfl B.len_ ig (aa (pv 1) aq)) aq)) (fun _ _ _ _ _=>(aG (i:=0) (aO (by decide+kernel)) rfl (Qi rfl))) (fun _ _ _ _ _=>bC) (fun _ _ _ _ _=>(bh (r:=jN K) bW (pv 1) (Lz K rfl QB PySem.F.slot_list_index PySem.F.type_list_index xP (pv 2) (aa (pv 0) aq)) (fun _ _=>rfl)))) aq)))),?_⟩
  obtain⟨nd,hl,hv,hm⟩:=cQ pm
  have el:((rs.map vN).length:Nat)=n:=by rw[Pq,hl]
  refine⟨_,rfl,r,_,rfl,.inl (SqL.of hrw),_,rfl,by lia,by lia,fun D hD=>dm (lo:=0) (n:=(((rs.map vN).length:Nat):Int).toNat) (fun i zs σ' H2=>(∃ u,σ'=[u,some (.ref g),some (.ref r)])/\aM H H2/\H2 D=some (.lst zs)/\zs=((PL i).map fun j=>x.getD (ixP rs j) 0).map V.int)
   ⟨⟨_,rfl⟩,au hD _,aj,rfl⟩ (fun i zs σ' H2 _ h=>h.2.2.1) ?_ ?_⟩
  ·rintro i zs σ' H2 hi ⟨⟨u,rfl⟩,sm,eD,rfl⟩
   have hin:i < n:=by lia
   have hx:=lM pm hin
   refine gT ?_
   rw[Tp]
   refine⟨_,rfl,_,rfl,.inl ⟨rfl,_,SqL.of (sm _ _ hrw)⟩,_,rfl,?_⟩
   dsimp only [LQ]
   refine wM (sm _ _ hrw) (hm i hin) ?_
   refine⟨g,_,_,_,rfl,rfl,SqT.of (sm _ _ hg),o5 (by lia),eD,?_,⟨_,rfl⟩,aF sm hD _,aj,?_⟩
   ·rw[Pq,Pq,Qn]
    exact aD (by lia)
   ·rw[Sw,PJ,PJ]
    congr 1
    show[V.int _]=[V.int (x.getD (ixP rs i) 0)]
    rw[Pz,Px (by lia)]
    rfl
  ·rintro zs σ' H2 ⟨_,sm,eD,rfl⟩
   refine⟨D,_,rfl,.inl ⟨SqL.of eD,fun a ha=>q a _ (sm.trans (au ha _)) ?_⟩⟩
   rw[aj]
   have e:((((rs.map vN).length:Nat):Int)).toNat=n:=by lia
   rw[e]
   rfl
abbrev eZ:Stmt:=top 42
theorem cP:aX ["_law_book_here","_law_row","_law_found","_law_one","_law_pledges_of"] ["_law_book_here","_law_row"] (aJ eZ):=⟨rfl,rfl,rfl,by decide+kernel,rfl,by decide+kernel,by decide+kernel⟩
inductive uq (vs:List V) (H:Hp) (Q:VK):Prop where
 | mk (b r:Addr) (n:Nat) (bk:List (List Pl)) (rs:List Nat) (z0:vs=[.ref b,.ref r]) (z1:nZ n H b bk) (z2:bk.length=n) (z3:H r=some (.lst (rs.map vN))) (z4:rs.Perm (PL n)) (z5:∀ (a:Addr) (H':Hp),aM H H'->nZ n H' a (mvB n rs bk)->Q (.ref a) H'):uq  vs H Q
def wA:Sp:=fun vs H Q _=>uq  vs H Q
theorem jU (F:Fun K "_law_moved_book" "_law_moved_book" eZ f fd) (B:Bt mg)
  (D_law_renamed:Df P w K mg base "_law_renamed" 4 ["_law_term_here","_law_row"] (vG K 4)):eX P w K mg base CX0 5 f fd ["_law_book_here","_law_row"] wA:=by
 refine F.ok cP (fun vs H Q E h=>?_) (fun cdv A outer s H vs Q E hr h=>?_)
 ·obtain⟨b,r,n,bk,rs,rfl,_⟩:=h
  rfl
 ·obtain⟨b,r,n,bk,rs,rfl,hB,lb,hrw,pm,q⟩:=h
  refine⟨_,(aA (aR (i:=2) cP.nd rfl (Qi rfl) (bK aq))
 (aA (gK Ro rfl (cG rfl B.range_ (aa (aK (r:=yR K) cI rfl B.len_ ig (aa (pv 1) aq)) aq)) (aG (i:=3) cP.nd rfl (Qi rfl)) (aA (aR (i:=4) cP.nd rfl (Qi rfl) (bh (r:=fX K) aQ (pv 0) (jX QB PySem.F.slot_list_index PySem.F.type_list_index xP (pv 1) (aa (pv 3) aq)) (fun _ _=>rfl)))
 (aC (gk (jX QB Rm Rk cM (pv 2) (aa (bA (L:=["_law_pledge_here"]) (F:=["_law_row"]) (cap:=[1]) rfl (bu rfl rfl (by kernel_rfl)) (dY (pv 4)) (fun _ _ _ _ _=>(aG (i:=0) (aO (by decide+kernel)) rfl (Qi rfl))) (fun _ _ _ _ _=>bC) (fun _ _ _ _ _=>(bG (r:=fB K) bB rfl B.tuple_ bV (aa (bA (L:=["_law_step","_law_term_here"]) (F:=["_law_row"]) (cap:=[1]) rfl (bu rfl rfl (by kernel_rfl)) (Ib K rfl (pv 0)) (fun _ _ _ _ _=>(eE (K:=K) 2 rfl rfl (aZ (aG (i:=0) (aO (by decide+kernel)) rfl (Qi rfl)) (aZ (aG (i:=1) (aO (by decide+kernel)) rfl (Qi rfl)) dR)))) (fun _ _ _ _ _=>bC) (fun _ _ _ _ _=>(bQ (aa (pv 0) (aa (aY D_law_renamed hr (aa (pv 1) (aa (pv 2) aq))) aq))))) aq)))) aq))))))
 (aC (aL (pv 2))))),?_⟩
  obtain⟨nd,hl,hv,hm⟩:=cQ pm
  obtain⟨us0,hb0,rb0,l12⟩:=id hB
  have lu:=rb0.length
  have el:((rs.map vN).length:Nat)=n:=by rw[Pq,hl]
  refine⟨small (by show 0<=1000; decide),fun fo hfo=>?_⟩
  generalize eH1:upd H fo _=H1
  obtain⟨g1,e1⟩:=aH eH1 hfo
  refine⟨_,rfl,r,_,rfl,.inl (SqL.of (g1 _ _ hrw)),_,rfl,by lia,by lia,iw (lo:=0) (n:=(((rs.map vN).length:Nat):Int).toNat) (fun i σ H2=>(∃ u v,σ=[some (.ref b),some (.ref r),some (.ref fo),u,v])/\aM H H2/\∃ (us:List V),H2 fo=some (.lst us)/\cB n H2 us ((PL i).map fun j=>(bk.getD (ixP rs j) []).map (mvP rs))/\(∀ u∈us,u≠.ref fo))
   ⟨⟨_,_,rfl⟩,g1,[],e1,.nil,by simp⟩ ?_ ?_⟩
  ·rintro i σ H2 hi ⟨⟨u,v,rfl⟩,sm,us,ef,rb,hur⟩
   have hin:i < n:=by lia
   have hx:=lM pm hin
   have lus:=rb.length
   rw[Pq,Qn] at lus
   rw[Tp]
   have hy:us0[ixP rs i]? = some us0[ixP rs i]:=Px (by lia)
   obtain⟨c,as,ps,ec,hps,hc,l100,rps⟩:=rb0.get hy
   have gb:bk.getD (ixP rs i) []=ps:=by rw[Pz,hps]; rfl
   have at2:atI us0 ((ixP rs i:Nat):Int)=some (.ref c):=by rw[← ec]; exact iB hy
   refine gN ?_
   dsimp only
   refine⟨_,rfl,_,rfl,.inl ⟨rfl,_,SqL.of (sm _ _ hrw)⟩,_,rfl,?_⟩
   dsimp only [LQ]
   refine wM (sm _ _ hrw) (hm i hin) ?_
   refine⟨b,_,_,_,rfl,rfl,SqL.of (sm _ _ hb0),at2,?_⟩
   refine gN ?_
   refine⟨_,rfl,.inl ⟨rfl,_,SqL.of ef⟩,_,rfl,c,rfl,⟨_,SqL.of (sm _ _ hc)⟩,fun D hD=>cH (K:=K) (a:=c) (xs:=as.map V.ref) (fun j zs σ' H3=>(∃ u,σ'=[u,some (.ref r)])/\aM H2 H3/\H3 D=some (.lst zs)/\∃ qs:List Addr,zs=qs.map V.ref/\dH n H3 qs ((ps.take j).map (mvP rs)))
    ⟨⟨_,rfl⟩,au hD _,aj,[],rfl,by rw[Rt]; exact .nil⟩ (fun j zs σ' H3 _ h=>⟨SqL.of ((sm.trans h.2.1) _ _ hc),h.2.2.1⟩) ?_ ?_⟩
   ·rintro j zs x σ' H3 hx3 ⟨⟨u,rfl⟩,s3,eD,qs,rfl,rq⟩
    rw[Qj] at hx3
    obtain⟨pa,hpa,rfl⟩:=Option.map_eq_some_iff.mp hx3
    obtain⟨p,hp,okp,vs0,ev0,rv0⟩:=rps.get hpa
    have hj100:=(List.getElem?_eq_some_iff.mp hpa).1
    have hpm:p∈ps:=Qu hp
    have hpsm:ps∈bk:=Qu hps
    have s23:=sm.trans s3
    have lv0:=rv0.length
    have p9:=okp.2.1
    have lq:=rq.length
    rw[Pq,Qh] at lq
    refine gT ?_
    refine⟨_,rfl,pa,rfl,⟨_,SqT.of (s23 _ _ ev0)⟩,fun D2 hD2=>fC (K:=K) (a:=pa) (xs:=vs0) (fun i zs σ' H4=>(∃ u v,σ'=[u,v,some (.ref r)])/\aM H3 H4/\H4 D2=some (.lst zs)/\dF n H4 zs ((p.take i).map fun x=>(x.1,ren (dg rs) x.2)))
     ⟨⟨_,_,rfl⟩,au hD2 _,aj,.nil⟩ (fun i zs σ' H4 _ h=>⟨SqT.of ((s23.trans h.2.1) _ _ ev0),h.2.2.1⟩) ?_ ?_⟩
    ·rintro i zs x σ' H4 hx4 ⟨⟨u,v,rfl⟩,s4,eD2,rz⟩
     obtain⟨ra,kk,tv,t,rfl,era,rt,hpi⟩:=rv0.get hx4
     have s24:=s23.trans s4
     have lz:=rz.length
     rw[Pq,Qh] at lz
     refine⟨ra,_,rfl,SqT.of (s24 _ _ era),rfl,_,_,rfl,_,_,rfl,rfl,?_⟩
     refine tT ?_
     refine⟨_,rfl,_,rfl,_,rfl,tv,r,n,n,t,rs,rfl,rt.mono s24,(okp.2.2.2 _ (Qu hpi)).2.2,SqL.of (s24 _ _ hrw),by lia,nd,hv,fun v' H5 s5 r5=>?_⟩
     refine⟨small (by show 2<=1000; decide),fun pb hb'=>?_⟩
     generalize eHb:upd H5 pb _=Hb
     obtain⟨gb',eb⟩:=aH eHb hb'
     have s4b:=s5.trans gb'
     have tk:=bR (zs':=zs++[.ref pb]) (s4b _ _ eD2)
     refine⟨s4b _ _ eD2,aD (by lia),⟨_,_,rfl⟩,aF (s4.trans s4b) hD2 _,aj,?_⟩
     rw[Qz,hpi,PJ]
     exact dF.snoc (tk _ _ eb) ((r5.mono gb').bj tk) ((rz.bj fun a xs q=>s4b a _ q).bj tk)
    ·rintro zs σ' H4 ⟨_,s4,eD2,rz⟩
     have lt:p.take vs0.length=p:=by rw[lv0,Qg]
     rw[lt] at rz
     refine⟨D2,_,rfl,.inl ⟨SqL.of eD2,fun pb hb'=>?_⟩⟩
     generalize eHb:upd H4 pb _=Hb
     obtain⟨gb',eb⟩:=aH eHb hb'
     have s4b:=s4.trans gb'
     have tk:=bR (zs':=qs.map V.ref++[.ref pb]) (s4b _ _ eD)
     refine⟨s4b _ _ eD,aD (by rw[Pq]; lia),⟨_,rfl⟩,aF (s3.trans s4b) hD _,aj,qs++[pb],by rw[PJ]; rfl,?_⟩
     rw[Qz,hp,PJ]
     refine dH.snoc ⟨GF okp,zs,tk _ _ eb,(rz.bj fun a xs q=>gb' a _ q).bj tk⟩ ((rq.bj fun a xs q=>s4b a _ q).bj tk)
   ·rintro zs σ' H3 ⟨_,s3,eD,qs,rfl,rq⟩
    have lps:=rps.length
    have lt:ps.take (as.map V.ref).length=ps:=by rw[Pq,lps,Qg]
    rw[lt] at rq
    have lq:=rq.length
    rw[Pq] at lq
    have s23:=sm.trans s3
    have ef3:=s3 _ _ ef
    have hDr:D≠fo:=fun z=>by
     rw[z] at hD
     rw[ef] at hD
     cases hD
    refine⟨fo,_,_,rfl,rfl,ef3,aD (by lia),⟨_,_,rfl⟩,aF s23 hfo _,us++[.ref D],aj,?_,fun u hu=>?_⟩
    ·have b6:=cB.snoc eD (by lia) rq (rb.mono s3)
     rw[Sw,PJ]
     show cB n _ _ (_++[(bk.getD (ixP rs i) []).map (mvP rs)])
     rw[gb]
     refine b6.keep ef3 fun u hu=>?_
     rcases List.mem_append.mp hu with h | h
     ·exact hur u h
     ·rw[List.mem_singleton.mp h]
      exact fun z=>hDr (by cases z; rfl)
    ·rcases List.mem_append.mp hu with h | h
     ·exact hur u h
     ·rw[List.mem_singleton.mp h]
      exact fun z=>hDr (by cases z; rfl)
  ·rintro σ H2 ⟨⟨u,v,rfl⟩,sm,us,ef,rb,hur⟩
   have e:((((rs.map vN).length:Nat):Int)).toNat=n:=by lia
   rw[e] at rb
   exact⟨_,rfl,q fo H2 sm ⟨us,ef,rb,by rw[bO]; lia⟩⟩
def NoH:Hp:=fun _=>none
theorem LF.at {H0 H:Hp}:∀ {us:List V} {cs:List (List Nat)} {i:Nat} {u:V},LF H0 H us cs->us[i]? = some u->∃ (a:Addr) (c:List Nat),u = .ref a/\cs[i]? = some c/\H a=some (.lst (c.map vN))
 | _,_,_,_,.nil,h=>by simp at h
 | _,_,0,_,.cons h1 _ _,e=>by
  cases (show some _=some _ from e)
  exact⟨_,_,rfl,rfl,h1⟩
 | _,_,i+1,_,.cons _ _ r,e=>by
  obtain⟨a,c,k1,k2,k3⟩:=LF.at (i:=i) r (by simpa using e)
  exact⟨a,c,k1,by simpa using k2,k3⟩
theorem xX {n:Nat} {bk:List (List Pl)} (h:PlN n bk) (k:Nat):PlN n (lV bk k):=fun ps hps=>by
 obtain⟨i,hi,e⟩:=RP hps
 have hi':i < bk.length:=by rw[bH] at hi; exact hi
 have t:=mO (k:=k) hi'
 rw[Px hi,e] at t
 have t:=QC t
 by_cases z:i=k
 ·rw[if_pos z] at t
  rw[t]
  intro p hp
  cases hp
 ·rw[if_neg z] at t
  rw[t]
  exact h _ (Q9 hi')
abbrev HX:Stmt:=top 43
theorem gW:aX ["_law_script","_law_n","_law_most","_law_book_here","_law_floor","_law_row","_law_other","_law_base","_law_found","_law_some","_law_one"] ["_law_script"] (aJ HX):=⟨rfl,rfl,rfl,by decide+kernel,rfl,by decide+kernel,by decide+kernel⟩
inductive G7 (K:Qp) (vs:List V) (H:Hp) (Q:VK):Prop where
 | mk (a:Addr) (ns:List Int) (z0:vs=[.ref a]) (z1:SqL K H a (ns.map V.int)) (z2:ns.length<=63) (z3:∀ H',Q (.bl true) H'):G7 K vs H Q
def FN (K:Qp):Sp:=fun vs H Q _=>G7 K vs H Q
theorem Mt (F:Fun K "law" "law" HX f fd) (B:Bt mg)
  (D_law_scene:Df P w K mg base "_law_scene" 8 ["_law_script"] (Ca K)) (D_law_order:Df P w K mg base "_law_order" 3 ["_law_cell_here","_law_n"] zu) (D_law_cell:Df P w K mg base "_law_cell" 1 ["_law_script","_law_k"] (wz K))
  (D_law_moved_book:Df P w K mg base "_law_moved_book" 5 ["_law_book_here","_law_row"] wA) (D_law_moved:Df P w K mg base "_law_moved" 1 ["_law_giving_here","_law_row"] zX) (D_rise:Df P w K mg base "rise" 12 ["book","floor"] (kE Kl)) (D_fall:Df P w K mg base "fall" 12 ["book","floor"] (kE rfF))
  (D_law_same:Df P w K mg base "_law_same" 3 ["_law_found","_law_due"] (pD 3)) (D_greatest:Df P w K mg base "greatest" 13 ["book","floor"] (ud rfF)) (D_least:Df P w K mg base "least" 13 ["book","floor"] (ud Kl))
  (D_knots:Df P w K mg base "knots" 14 ["book","floor"] Dc) (D_lost:Df P w K mg base "lost" 15 ["book","floor","one"] Hg):eX P w K mg base CX0 16 f fd ["_law_script"] (FN K):=by
 refine F.ok gW (fun vs H Q E h=>?_) (fun cdv A outer s H vs Q E hr h=>?_)
 ·obtain⟨a,ns,rfl,_⟩:=h
  rfl
 ·obtain⟨a,ns0,rfl,hS,lN,q⟩:=h
  refine' ⟨_,?hp,?hz⟩
  case hp =>
   refine' aA ?s1 ?r1
   case s1 =>
    exact (aR (i:=0) gW.nd rfl (Qi rfl) (wF (r:=Oa K) Ja (pv 0) zG (zc aB)))
   case r1 =>
    refine' aA ?s2 ?r2
    case s2 =>
     exact (Gr (aY D_law_scene hr (aa (pv 0) aq)) (eE (K:=K) 4 rfl rfl (aZ (aG (i:=1) gW.nd rfl (Qi rfl)) (aZ (aG (i:=2) gW.nd rfl (Qi rfl)) (aZ (aG (i:=3) gW.nd rfl (Qi rfl)) (aZ (aG (i:=4) gW.nd rfl (Qi rfl)) dR))))))
    case r2 =>
     refine' aA ?s3 ?r3
     case s3 =>
      exact (aR (i:=5) gW.nd rfl (Wg rfl) (aY D_law_order hr (aa (aY D_law_cell hr (aa (pv 0) (aa aB aq))) (aa (pv 1) aq))))
     case r3 =>
      refine' aA ?s4 ?r4
      case s4 =>
       exact (aR (i:=6) gW.nd rfl (Qi rfl) (aY D_law_moved_book hr (aa (pv 3) (aa (pv 5) aq))))
      case r4 =>
       refine' aA ?s5 ?r5
       case s5 =>
        exact (aR (i:=7) gW.nd rfl (Qi rfl) (aY D_law_moved hr (aa (pv 4) (aa (pv 5) aq))))
       case r5 =>
        refine' aA ?s6 ?r6
        case s6 =>
         exact (cg (oZ (iz (aY D_law_same hr (aa (aY D_rise hr (aa (pv 6) (aa (pv 7) aq))) (aa (bA (L:=["_law_one"]) (F:=["_law_row"]) (cap:=[5]) rfl (bu rfl rfl (by kernel_rfl)) (dY (aY D_rise hr (aa (pv 3) (aa (pv 4) aq)))) (fun _ _ _ _ _=>(aG (i:=0) (aO (by decide+kernel)) rfl (Qi rfl))) (fun _ _ _ _ _=>bC) (fun _ _ _ _ _=>(aY D_law_moved hr (aa (pv 0) (aa (pv 1) aq))))) aq))))) (aC (aL jw)) aW)
        case r6 =>
         refine' aA ?s7 ?r7
         case s7 =>
          exact (cg (oZ (iz (aY D_law_same hr (aa (aY D_fall hr (aa (pv 6) (aa (pv 7) aq))) (aa (bA (L:=["_law_one"]) (F:=["_law_row"]) (cap:=[5]) rfl (bu rfl rfl (by kernel_rfl)) (dY (aY D_fall hr (aa (pv 3) (aa (pv 4) aq)))) (fun _ _ _ _ _=>(aG (i:=0) (aO (by decide+kernel)) rfl (Qi rfl))) (fun _ _ _ _ _=>bC) (fun _ _ _ _ _=>(aY D_law_moved hr (aa (pv 0) (aa (pv 1) aq))))) aq))))) (aC (aL jw)) aW)
         case r7 =>
          refine' aA ?s8 ?r8
          case s8 =>
           exact (aR (i:=8) gW.nd rfl (Qi rfl) (bK (aa (aY D_least hr (aa (pv 6) (aa (pv 7) aq))) (aa (aY D_greatest hr (aa (pv 6) (aa (pv 7) aq))) aq))))
          case r8 =>
           refine' aA ?s9 ?r9
           case s9 =>
            exact (cg (oZ (iz (aY D_law_same hr (aa (pv 8) (aa (bK (aa (aY D_law_moved hr (aa (aY D_least hr (aa (pv 3) (aa (pv 4) aq))) (aa (pv 5) aq))) (aa (aY D_law_moved hr (aa (aY D_greatest hr (aa (pv 3) (aa (pv 4) aq))) (aa (pv 5) aq))) aq))) aq))))) (aC (aL jw)) aW)
           case r9 =>
            refine' aA ?s10 ?r10
            case s10 =>
             exact (aR (i:=9) gW.nd rfl (Qi rfl) (aK (r:=vC K) (nT hr) rfl B.sorted_ (by decide+kernel) (aa (bA (L:=["_law_crowd_here"]) (F:=["_law_row"]) (cap:=[5]) rfl (bu rfl rfl (by kernel_rfl)) (dY (aY D_knots hr (aa (pv 3) (aa (pv 4) aq)))) (fun _ _ _ _ _=>(aG (i:=0) (aO (by decide+kernel)) rfl (Qi rfl))) (fun _ _ _ _ _=>bC) (fun _ _ _ _ _=>(aK (r:=wX K) jT rfl B.sorted_ (by decide+kernel) (aa (bA (L:=["_law_one"]) (F:=["_law_row"]) (cap:=[1]) rfl (bu rfl rfl (by kernel_rfl)) (qi K rfl (pv 0)) (fun _ _ _ _ _=>(aG (i:=0) (aO (by decide+kernel)) rfl (Qi rfl))) (fun _ _ _ _ _=>bC) (fun _ _ _ _ _=>(bh (r:=fX K) aQ (pv 1) (pv 0) (fun _ _=>rfl)))) aq)))) aq)))
            case r10 =>
             refine' aA ?s11 ?r11
             case s11 =>
              exact (cg (oZ (iz (aY D_law_same hr (aa (aY D_knots hr (aa (pv 6) (aa (pv 7) aq))) (aa (pv 9) aq))))) (aC (aL jw)) aW)
             case r11 =>
              refine' aA ?s12 ?r12
              case s12 =>
               refine' gK Ro rfl ?it ?tg ?bd ?hs
               case hs=>intro _; rfl
               case it=>exact (cG rfl B.range_ (aa (pv 1) aq))
               case tg=>exact (aG (i:=10) gW.nd rfl (Qi rfl))
               case bd =>
                refine' aC ?s13
                case s13 =>
                 exact (cg (oZ (iz (aY D_law_same hr (aa (aY D_lost hr (aa (pv 6) (aa (pv 7) (aa (bh (r:=fX K) aQ (pv 5) (pv 10) (fun _ _=>rfl)) aq)))) (aa (aK (r:=wX K) jT rfl B.sorted_ (by decide+kernel) (aa (bA (L:=["_law_at"]) (F:=["_law_row"]) (cap:=[5]) rfl (bu rfl rfl (by kernel_rfl)) (dY (aY D_lost hr (aa (pv 3) (aa (pv 4) (aa (pv 10) aq))))) (fun _ _ _ _ _=>(aG (i:=0) (aO (by decide+kernel)) rfl (Qi rfl))) (fun _ _ _ _ _=>bC) (fun _ _ _ _ _=>(bh (r:=fX K) aQ (pv 1) (pv 0) (fun _ _=>rfl)))) aq)) aq))))) (aC (aL jw)) aW)
              case r12 =>
               refine' aC ?s14
               case s14 =>
                exact (aL jw)
  case hz =>
  refine bw (fun σ H1=>∃ (p1:Addr) (ss:List Int),σ=[some (.ref p1),none,none,none,none,none,none,none,none,none,none]/\aM H H1/\H1 p1=some (.lst (ss.map V.int))/\ss.length<=63) ?q0 ?t0
  case t0 =>
   intro N Rc
   refine⟨_,rfl,_,rfl,a,_,rfl,hS,fun p1 h1=>?_⟩
   obtain⟨ss,es,ls⟩:=Gd ns0 none (some 63)
   rw[es]
   exact Rc _ _ ⟨p1,ss,rfl,au h1 _,aj,by lia⟩
  case q0 =>
  rintro σ H1 ⟨p1,ss,rfl,g1,e1,ls⟩
  refine bw (fun σ H4=>∃ (n mo:Nat) (b f:Addr) (bk:List (List Pl)) (fl:List Int),σ=[some (.ref p1),some (.int (n:Int)),some (.int (mo:Int)),some (.ref b),some (.ref f),none,none,none,none,none,none]/\aM H1 H4/\n<=6/\Lb n H4 b f bk fl) ?q1 ?t1
  case t1 =>
   intro N Rc
   exact⟨_,rfl,p1,ss,rfl,SqL.of e1,fun r n mo b f bk fl H4 s4 er m1 m9 hpow hmo scn om=>⟨r,_,rfl,SqT.of er,rfl,_,_,rfl,_,_,rfl,_,_,rfl,_,_,rfl,rfl,Rc _ _ ⟨n,mo,b,f,bk,fl,rfl,s4,hpow.2,scn⟩⟩⟩
  case q1 =>
  rintro σ H4 ⟨n,mo,b,f,bk,fl,rfl,s4,n6,⟨n1,n12,hB,lb,hf,lf,hfl⟩⟩
  have of:okG n fl:=⟨lf,hfl⟩
  have okb:=hB.okB
  have hpn:=hB.names
  have low:=Kp lb okb of
  generalize cl n bk fl=lo at low
  obtain⟨mf,_,stf⟩:=jO lb okb of
  have hh:=bJ lb okb of stf
  generalize itF (Fd fl bk) (rfF fl bk) mf=hi at hh
  refine bw (fun σ H5=>∃ (rw:Addr) (rs:List Nat),σ=[some (.ref p1),some (.int (n:Int)),some (.int (mo:Int)),some (.ref b),some (.ref f),some (.ref rw),none,none,none,none,none]/\aM H4 H5/\rs.Perm (PL n)/\H5 rw=some (.lst (rs.map vN))) ?q2 ?t2
  case t2 =>
   intro N Rc
   exact⟨_,rfl,p1,ss,17,rfl,SqL.of (s4 _ _ e1),_,rfl,_,n,rfl,n1,n12,fun r rs H5 s5 _ pm er=>Rc _ _ ⟨r,rs,rfl,s5,pm,er⟩⟩
  case q2 =>
  rintro σ H5 ⟨rw,rs,rfl,s45,pm,erow0⟩
  obtain⟨nd,lrs,hv,hm⟩:=cQ pm
  have of':=jq (rs:=rs) pm of
  have okb':okB (mvB n rs bk):=pF okb
  have low':=Aa pm lb okb hpn of low
  have hh':=Bb pm lb okb hpn of hh
  refine bw (fun σ Ha=>∃ (ob:Addr),σ=[some (.ref p1),some (.int (n:Int)),some (.int (mo:Int)),some (.ref b),some (.ref f),some (.ref rw),some (.ref ob),none,none,none,none]/\aM H5 Ha/\nZ n Ha ob (mvB n rs bk)) ?q3 ?t3
  case t3 =>
   intro N Rc
   exact⟨_,rfl,_,rfl,b,rw,n,bk,rs,rfl,hB.mono s45,lb,erow0,pm,fun a Ha sa hBo=>Rc _ _ ⟨a,rfl,sa,hBo⟩⟩
  case q3 =>
  rintro σ Ha ⟨ob,rfl,sa,hBo0⟩
  refine bw (fun σ H6=>∃ (ba:Addr),σ=[some (.ref p1),some (.int (n:Int)),some (.int (mo:Int)),some (.ref b),some (.ref f),some (.ref rw),some (.ref ob),some (.ref ba),none,none,none]/\aM Ha H6/\H6 ba=some (.tup ((cj n rs fl).map V.int))) ?q4 ?t4
  case t4 =>
   intro N Rc
   exact⟨_,rfl,_,rfl,f,rw,n,fl,rs,rfl,n12,(s45.trans sa) _ _ hf,lf,sa _ _ erow0,pm,fun a H6 s6 ea=>Rc _ _ ⟨a,rfl,s6,ea⟩⟩
  case q4 =>
  rintro σ H6 ⟨ba,rfl,sa6,eba⟩
  have hBo:=hBo0.mono sa6
  have s56:=sa.trans sa6
  have s46:=s45.trans s56
  have s66:=aM.refl H6
  refine bw (fun σ Hz=>σ=[some (.ref p1),some (.int (n:Int)),some (.int (mo:Int)),some (.ref b),some (.ref f),some (.ref rw),some (.ref ob),some (.ref ba),none,none,none]/\aM H6 Hz) ?q5 ?t5
  case t5 =>
   intro N Rc
   refine⟨_,rfl,_,rfl,ob,ba,n,mvB n rs bk,cj n rs fl,rfl,hBo.mono s66,bO,s66 _ _ eba,of',fun m r1 us1 H1 m9 st1 s1 fr1 er1 gr1=>?_⟩
   have s41:=s46.trans s1
   refine⟨_,rfl,_,rfl,b,f,n,bk,fl,rfl,hB.mono s41,lb,s41 _ _ hf,of,fun m2 r2 us2 H2 _ st2 s2 fr2 er2 gr2=>?_⟩
   have gr2:fu H2 us2 (cT (Fd fl bk) (fl) m2):=gr2
   have em:m2=m:=by
    have:=mj pm lb okb hpn of of st2
    exact oV this st1
   subst em
   have erow2:=(s56.trans (s1.trans s2)) _ _ erow0
   refine⟨r2,rfl,⟨_,SqL.of er2⟩,fun D hD=>cH (K:=K) (a:=r2) (xs:=us2) (fun i zs σ' Hy=>(∃ u,σ'=[u,some (.ref rw)])/\aM H2 Hy/\Hy D=some (.lst zs)/\fu Hy zs (((cT (Fd fl bk) (fl) m2).take i).map (cj n rs)))
    ⟨⟨_,rfl⟩,au hD _,aj,by rw[Rt]; exact .nil⟩ (fun i zs σ' Hy _ h=>⟨SqL.of (h.2.1 _ _ er2),h.2.2.1⟩) ?_ ?_⟩
   ·rintro i zs x σ' Hy hx ⟨⟨u,rfl⟩,sy,eD,gz⟩
    have il:=(List.getElem?_eq_some_iff.mp hx).1
    have lg:=gr2.length
    obtain⟨g,hg⟩:∃ g,(cT (Fd fl bk) (fl) m2)[i]? = some g:=⟨_,Px (by lia)⟩
    obtain⟨ga,hga,ega⟩:=gr2.get hg
    rw[hga] at hx
    cases hx
    have ln:g.length=n:=by
     obtain⟨k,_,rfl⟩:=List.mem_map.mp (Qu hg)
     exact (dG lb okb of of k).1
    have lz:=gz.length
    rw[Pq,Qh] at lz
    have lrw:(cT (Fd fl bk) (fl) m2).length=m2+1:=dj _ _ _
    refine gT ?_
    refine⟨_,rfl,_,rfl,ga,rw,n,g,rs,rfl,n12,sy _ _ ega,ln,sy _ _ erow2,pm,fun a Hw sw ea=>?_⟩
    have tk:=bR (zs':=zs++[.ref a]) (sw _ _ eD)
    refine⟨sw _ _ eD,aD (by lia),⟨_,rfl⟩,aF (sy.trans sw) hD _,aj,?_⟩
    rw[Qz,hg,PJ]
    exact fu.snoc (tk _ _ ea) (by rw[fc]; lia) ((gz.mono sw).bj tk)
   ·rintro zs σ' Hy ⟨_,sy,eD,gz⟩
    have lg:=gr2.length
    have lrw:(cT (Fd fl bk) (fl) m2).length=m2+1:=dj _ _ _
    rw[lg,Qg] at gz
    have lz:=gz.length
    rw[Pq] at lz
    have e:cT (Fd (cj n rs fl) (mvB n rs bk)) (cj n rs fl) m2=(cT (Fd fl bk) (fl) m2).map (cj n rs):=by
     exact Aj pm lb okb hpn of fl m2
    rw[e] at gr1
    have lg1:=gr1.length
    rw[Pq] at lg1
    refine⟨.ref r1,.ref D,.lst (((cT (Fd fl bk) (fl) m2).map (cj n rs)).map gD),rfl,.lst ((s2.trans sy) _ _ er1) (by lia) (gr1.mono (s2.trans sy)).Lw,.lst eD (by lia) gz.Lw,?_,fun Hk sk=>⟨_,rfl,gq (Rc _ _ ⟨rfl,s1.trans (s2.trans (sy.trans sk))⟩)⟩⟩
    rw[Dm.dep]
    have:=uQ ((cT (Fd fl bk) (fl) m2).map (cj n rs))
    lia
  case q5 =>
  rintro σ H7 ⟨rfl,s7⟩
  have s67:=s7
  have s47:=s46.trans s7
  have s57:=s56.trans s7
  refine bw (fun σ Hz=>σ=[some (.ref p1),some (.int (n:Int)),some (.int (mo:Int)),some (.ref b),some (.ref f),some (.ref rw),some (.ref ob),some (.ref ba),none,none,none]/\aM H7 Hz) ?q6 ?t6
  case t6 =>
   intro N Rc
   refine⟨_,rfl,_,rfl,ob,ba,n,mvB n rs bk,cj n rs fl,rfl,hBo.mono s67,bO,s67 _ _ eba,of',fun m r1 us1 H1 m9 st1 s1 fr1 er1 gr1=>?_⟩
   have s41:=s47.trans s1
   refine⟨_,rfl,_,rfl,b,f,n,bk,fl,rfl,hB.mono s41,lb,s41 _ _ hf,of,fun m2 r2 us2 H2 _ st2 s2 fr2 er2 gr2=>?_⟩
   have gr2:fu H2 us2 (cT (Fd fl bk) (rfF fl bk) m2):=gr2
   have em:m2=m:=by
    have:=mj pm lb okb hpn of (dB lb okb of) st2
    rw[← Fl pm lb okb of] at this
    exact oV this st1
   subst em
   have erow2:=(s57.trans (s1.trans s2)) _ _ erow0
   refine⟨r2,rfl,⟨_,SqL.of er2⟩,fun D hD=>cH (K:=K) (a:=r2) (xs:=us2) (fun i zs σ' Hy=>(∃ u,σ'=[u,some (.ref rw)])/\aM H2 Hy/\Hy D=some (.lst zs)/\fu Hy zs (((cT (Fd fl bk) (rfF fl bk) m2).take i).map (cj n rs)))
    ⟨⟨_,rfl⟩,au hD _,aj,by rw[Rt]; exact .nil⟩ (fun i zs σ' Hy _ h=>⟨SqL.of (h.2.1 _ _ er2),h.2.2.1⟩) ?_ ?_⟩
   ·rintro i zs x σ' Hy hx ⟨⟨u,rfl⟩,sy,eD,gz⟩
    have il:=(List.getElem?_eq_some_iff.mp hx).1
    have lg:=gr2.length
    obtain⟨g,hg⟩:∃ g,(cT (Fd fl bk) (rfF fl bk) m2)[i]? = some g:=⟨_,Px (by lia)⟩
    obtain⟨ga,hga,ega⟩:=gr2.get hg
    rw[hga] at hx
    cases hx
    have ln:g.length=n:=by
     obtain⟨k,_,rfl⟩:=List.mem_map.mp (Qu hg)
     exact (dG lb okb of (dB lb okb of) k).1
    have lz:=gz.length
    rw[Pq,Qh] at lz
    have lrw:(cT (Fd fl bk) (rfF fl bk) m2).length=m2+1:=dj _ _ _
    refine gT ?_
    refine⟨_,rfl,_,rfl,ga,rw,n,g,rs,rfl,n12,sy _ _ ega,ln,sy _ _ erow2,pm,fun a Hw sw ea=>?_⟩
    have tk:=bR (zs':=zs++[.ref a]) (sw _ _ eD)
    refine⟨sw _ _ eD,aD (by lia),⟨_,rfl⟩,aF (sy.trans sw) hD _,aj,?_⟩
    rw[Qz,hg,PJ]
    exact fu.snoc (tk _ _ ea) (by rw[fc]; lia) ((gz.mono sw).bj tk)
   ·rintro zs σ' Hy ⟨_,sy,eD,gz⟩
    have lg:=gr2.length
    have lrw:(cT (Fd fl bk) (rfF fl bk) m2).length=m2+1:=dj _ _ _
    rw[lg,Qg] at gz
    have lz:=gz.length
    rw[Pq] at lz
    have e:cT (Fd (cj n rs fl) (mvB n rs bk)) (rfF (cj n rs fl) (mvB n rs bk)) m2=(cT (Fd fl bk) (rfF fl bk) m2).map (cj n rs):=by
     rw[Fl pm lb okb of]
     exact Aj pm lb okb hpn of (rfF fl bk) m2
    rw[e] at gr1
    have lg1:=gr1.length
    rw[Pq] at lg1
    refine⟨.ref r1,.ref D,.lst (((cT (Fd fl bk) (rfF fl bk) m2).map (cj n rs)).map gD),rfl,.lst ((s2.trans sy) _ _ er1) (by lia) (gr1.mono (s2.trans sy)).Lw,.lst eD (by lia) gz.Lw,?_,fun Hk sk=>⟨_,rfl,gq (Rc _ _ ⟨rfl,s1.trans (s2.trans (sy.trans sk))⟩)⟩⟩
    rw[Dm.dep]
    have:=uQ ((cT (Fd fl bk) (rfF fl bk) m2).map (cj n rs))
    lia
  case q6 =>
  rintro σ H8 ⟨rfl,s8⟩
  have s68:=s67.trans s8
  have s48:=s47.trans s8
  have s58:=s57.trans s8
  have erow:=s58 _ _ erow0
  refine bw (fun σ H9=>∃ (fo a1 a2:Addr),σ=[some (.ref p1),some (.int (n:Int)),some (.int (mo:Int)),some (.ref b),some (.ref f),some (.ref rw),some (.ref ob),some (.ref ba),some (.ref fo),none,none]/\aM H8 H9/\H9 fo=some (.lst [.ref a1,.ref a2])/\H9 a1=some (.tup ((cj n rs lo).map V.int))/\H9 a2=some (.tup ((cj n rs hi).map V.int))) ?q7 ?t7
  case t7 =>
   intro N Rc
   refine⟨_,rfl,_,rfl,ob,ba,n,mvB n rs bk,cj n rs fl,rfl,hBo.mono s68,bO,s68 _ _ eba,of',fun m1 a1 Hc _ st1 sc ea1=>?_⟩
   have s6c:=s68.trans sc
   refine⟨_,rfl,_,rfl,ob,ba,n,mvB n rs bk,cj n rs fl,rfl,hBo.mono s6c,bO,s6c _ _ eba,of',fun m2 a2 Hd _ st2 sd ea2=>?_⟩
   refine⟨small (by show 2<=1000; decide),fun p hp=>?_⟩
   have gn:=au hp (.lst [.ref a1,.ref a2])
   rw[(dq bO okb' of' st1).uniq low'] at ea1
   rw[(bJ bO okb' of' st2).uniq hh'] at ea2
   exact Rc _ _ ⟨p,a1,a2,rfl,sc.trans (sd.trans gn),aj,gn _ _ (sd _ _ ea1),gn _ _ ea2⟩
  case q7 =>
  rintro σ H9 ⟨fo,a1,a2,rfl,s9,efo,ea1,ea2⟩
  have s49:=s48.trans s9
  have s69:=s68.trans s9
  refine bw (fun σ Hb=>σ=[some (.ref p1),some (.int (n:Int)),some (.int (mo:Int)),some (.ref b),some (.ref f),some (.ref rw),some (.ref ob),some (.ref ba),some (.ref fo),none,none]/\aM H9 Hb) ?q8 ?t8
  case t8 =>
   intro N Rc
   refine⟨_,rfl,_,rfl,_,rfl,b,f,n,bk,fl,rfl,hB.mono s49,lb,s49 _ _ hf,of,fun m1 b1 Hc _ st1 sc eb1=>?_⟩
   rw[(dq lb okb of st1).uniq low] at eb1
   refine⟨_,rfl,b1,rw,n,lo,rs,rfl,n12,eb1,low.1.1,(s9.trans sc) _ _ erow,pm,fun a3 Hd sd ea3=>?_⟩
   have s4d:=s49.trans (sc.trans sd)
   refine⟨_,rfl,_,rfl,b,f,n,bk,fl,rfl,hB.mono s4d,lb,s4d _ _ hf,of,fun m2 b2 He _ st2 se eb2=>?_⟩
   rw[(bJ lb okb of st2).uniq hh] at eb2
   refine⟨_,rfl,b2,rw,n,hi,rs,rfl,n12,eb2,hh.1.1,(s9.trans (sc.trans (sd.trans se))) _ _ erow,pm,fun a4 Hf sf ea4=>?_⟩
   refine⟨small (by show 2<=1000; decide),fun p hp=>?_⟩
   have gn:=au hp (.lst [.ref a3,.ref a4])
   have sgn:=sc.trans (sd.trans (se.trans (sf.trans gn)))
   have l1:(cj n rs lo).length<=1000:=by rw[fc]; lia
   have l2:(cj n rs hi).length<=1000:=by rw[fc]; lia
   refine⟨.ref fo,.ref p,.lst [gD (cj n rs lo),gD (cj n rs hi)],rfl,.lst (sgn _ _ efo) (by show 2<=100000; decide) (.cons (ju (sgn _ _ ea1) l1) (.cons (ju (sgn _ _ ea2) l2) .nil)),.lst aj (by show 2<=100000; decide) (.cons (ju (gn _ _ (sf _ _ (se _ _ ea3))) l1) (.cons (ju (gn _ _ ea4) l2) .nil)),?_,fun Hk sk=>⟨_,rfl,gq (Rc _ _ ⟨rfl,sgn.trans sk⟩)⟩⟩
   have d1:(gD (cj n rs lo)).dep=1:=vQ _
   have d2:(gD (cj n rs hi)).dep=1:=vQ _
   rw[Dm.dep,n8,n8,n8,d1,d2]
   decide
  case q8 =>
  rintro σ Hb ⟨rfl,sb⟩
  have s4b:=s49.trans sb
  have s6b:=s69.trans sb
  have erowb:=(s9.trans sb) _ _ erow
  refine bw (fun σ Hc=>∃ (so:Addr) (uo:List V) (js:List (List Nat)),σ=[some (.ref p1),some (.int (n:Int)),some (.int (mo:Int)),some (.ref b),some (.ref f),some (.ref rw),some (.ref ob),some (.ref ba),some (.ref fo),some (.ref so),none]/\aM Hb Hc/\Hc so=some (.lst uo)/\LF NoH Hc uo js/\eQ n (cj n rs fl) (mvB n rs bk) js) ?q9 ?t9
  case t9 =>
   intro N Rc
   refine⟨_,rfl,_,rfl,b,f,n,bk,fl,rfl,n6,hB.mono s4b,lb,s4b _ _ hf,of,fun kr uk ks Hk sk _ ek lk hne ka=>?_⟩
   have fewk:=ka.few low
   have p6:2 ^ n<=64:=by
    have:2 ^ n<=2 ^ 6:=Vu (by decide) n6
    lia
   have kok:∀ c∈ks,(∀ i∈c,i < n)/\c.Pairwise (· < ·)/\c.length<=6:=fun c hc=>by
    have:=(ka.1 lo low c).mp hc
    exact⟨this.2.1,this.1,by have:=fewk.2 c hc; lia⟩
   have knd:ks.Nodup:=ka.2.imp fun {a b} q e=>by
    rw[e,gm] at q
    cases q
   have klt:ks.length < 64:=by
    have h1:=cV (m:=(cO n).erase []) knd fun c hc=>by
     obtain⟨x1,x2,x3⟩:=(ka.1 lo low c).mp hc
     refine (WR fun z=>?_).mpr ?_
     ·rw[z] at x3
      exact x3.1 (wY lb okb of low)
     ·rw[← di x1 x2]
      exact d8 _ n
    have h0:[]∈cO n:=by
     have:=d8 (fun _=>false) n
     rw[List.filter_eq_nil_iff.mpr (fun _ _=>by simp)] at this
     exact this
    rw[Wh h0,dM] at h1
    have:0 < 2 ^ n:=Nat.pos_of_ne_zero (by simp)
    lia
   have luk:=lk.length
   refine⟨kr,rfl,⟨_,SqL.of ek⟩,fun D hD=>cH (K:=K) (a:=kr) (xs:=uk) (fun i zs σ' Hy=>(∃ u,σ'=[u,some (.ref rw)])/\aM Hk Hy/\Hy D=some (.lst zs)/\∃ ps:List (Addr × List Int),zs=ps.map (fun p=>V.ref p.1)/\ps.map (·.2)=(ks.take i).map (fun c=>iN (mvC rs c))/\∀ q∈ps,Hy q.1=some (.lst (q.2.map V.int))/\q.1≠D)
    ⟨⟨_,rfl⟩,au hD _,aj,[],rfl,by rw[Rt]; rfl,fun q hq=>by cases hq⟩ (fun i zs σ' Hy _ h=>⟨SqL.of (h.2.1 _ _ ek),h.2.2.1⟩) ?_ ?_⟩
   ·rintro i zs x σ' Hy hx ⟨⟨u,rfl⟩,sy,eD,ps,rfl,eps,hps⟩
    obtain⟨ca,c,rfl,hc,hca⟩:=lk.at hx
    obtain⟨c1,c2,c3⟩:=kok c (Qu hc)
    have il:=(List.getElem?_eq_some_iff.mp hc).1
    have erowy:=(sk.trans sy) _ _ erowb
    have lps:ps.length<=64:=by
     have:=congrArg Vv eps
     rw[Pq,Pq,Qh] at this
     lia
    refine gT ?_
    refine⟨_,rfl,ca,rfl,⟨_,SqL.of (sy _ _ hca)⟩,fun D2 hD2=>cH (K:=K) (a:=ca) (xs:=c.map vN) (fun i ys σ' Hw=>(∃ u,σ'=[u,some (.ref rw)])/\aM Hy Hw/\Hw D2=some (.lst ys)/\ys=((c.take i).map (dg rs)).map vN)
     ⟨⟨_,rfl⟩,au hD2 _,aj,rfl⟩ (fun i ys σ' Hw _ h=>⟨SqL.of ((sy.trans h.2.1) _ _ hca),h.2.2.1⟩) ?_ ?_⟩
    ·rintro i ys x σ' Hw hx ⟨⟨u,rfl⟩,sw,eD2,rfl⟩
     obtain⟨k,hk,rfl⟩:=rT hx
     have hkn:=c1 k (Qu hk)
     refine gT ?_
     refine⟨_,rfl,_,rfl,rw,_,_,_,rfl,rfl,SqL.of (sw _ _ erowy),o7 (by lia),eD2,?_,⟨_,rfl⟩,aF sw hD2 _,aj,?_⟩
     ·rw[Pq,Pq,Qh]
      exact aD (by lia)
     ·rw[Qz,hk,PJ,PJ]
      rfl
    ·rintro ys σ' Hw ⟨_,sw,eD2,rfl⟩
     rw[Pq,Qg] at eD2
     refine⟨D2,_,rfl,SqL.of (eD2.trans (by rw[eF])),by rw[Pq,Pq]; lia,fun ms pms so l hl=>?_⟩
     have ems:=pU pms so
     have ems:ms=iN (mvC rs c):=ems
     subst ems
     generalize eHv:upd Hw l _=Hv
     obtain⟨gv,ev⟩:=aH eHv hl
     have sv:=sw.trans gv
     have lD:l≠D:=fun z=>by rw[z,sw _ _ eD] at hl; cases hl
     refine⟨sv _ _ eD,aD (by rw[Pq]; lia),⟨_,rfl⟩,aF (sy.trans sv) hD _,aj,ps++[(l,iN (mvC rs c))],by rw[PJ]; rfl,?_,fun q hq=>?_⟩
     ·rw[PJ,eps,Qz,hc,PJ]
      rfl
     ·rcases List.mem_append.mp hq with h | h
      ·obtain⟨h1,h2⟩:=hps q h
       exact⟨by rw[bx h2]; exact sv _ _ h1,h2⟩
      ·rw[List.mem_singleton.mp h]
       exact⟨by rw[bx lD]; exact ev,lD⟩
   ·rintro zs σ' Hy ⟨_,sy,eD,ps,rfl,eps,hps⟩
    rw[luk,Qg] at eps
    have lps:ps.length=ks.length:=by
     have:=congrArg Vv eps
     rw[Pq,Pq] at this
     exact this
    have ndp:(ps.map (·.2)).Nodup:=by
     rw[eps]
     show (ks.map _).Pairwise (·≠·)
     rw[RK]
     refine Tr (fun {a b} ha hb hab e=>hab ?_) knd
     exact Iw pm (kok a ha).1 (kok a ha).2.1 (kok b hb).1 (kok b hb).2.1 (Lj e)
    refine⟨D,ps,rfl,SqL.of eD,by lia,fun q hq=>SqL.of (hps q hq).1,ndp,fun qs pq srt l hl=>?_⟩
    have gn:=au hl (.lst (qs.map fun p=>V.ref p.1))
    have hq:∀ p∈ps,∃ c∈ks.map (mvC rs),p.2=iN c/\(upd Hy l (.lst (qs.map fun p=>V.ref p.1))) p.1=some (.lst (c.map vN))/\NoH p.1=none:=fun p hp=>by
     have hm2:p.2∈ps.map (·.2):=VH hp
     rw[eps] at hm2
     obtain⟨c,hc,e⟩:=List.mem_map.mp hm2
     refine⟨mvC rs c,VH hc,e.symm,?_,rfl⟩
     rw[eF]
     have:=gn _ _ (hps p hp).1
     rw[← e] at this
     exact this
    refine Rc _ _ ⟨l,_,qs.map fun p=>p.2.map VP,rfl,sk.trans (sy.trans gn),aj,LF.ordered hq fun p hp=>pq.mem_iff.mp hp,?_⟩
    refine Dy pm lb okb hpn of low ka (fun d=>?_) ?_
    ·rw[List.mem_map]
     constructor
     ·rintro⟨p,hp,rfl⟩
      obtain⟨c,hc,e,_⟩:=hq p (pq.mem_iff.mp hp)
      obtain⟨c0,hc0,e0⟩:=List.mem_map.mp hc
      exact⟨c0,hc0,by rw[e,cY]; exact e0⟩
     ·rintro⟨c,hc,rfl⟩
      have:iN (mvC rs c)∈ps.map (·.2):=by
       rw[eps]
       exact VH (f:=fun c=>iN (mvC rs c)) hc
      obtain⟨p,hp,e⟩:=List.mem_map.mp this
      exact⟨p,pq.mem_iff.mpr hp,by rw[e,cY]⟩
    ·rw[RK]
     refine Tr (fun {x y} hx hy hxy=>?_) srt
     obtain⟨c,_,e,_⟩:=hq x (pq.mem_iff.mp hx)
     obtain⟨d,_,e',_⟩:=hq y (pq.mem_iff.mp hy)
     rw[e,e',cY,cY]
     rw[e,e'] at hxy
     exact hxy
  case q9 =>
  rintro σ Hc ⟨so,uo,js,rfl,sc,eso,lso,kj⟩
  have s4c:=s4b.trans sc
  have s6c:=s6b.trans sc
  have erowc:=sc _ _ erowb
  refine bw (fun σ Hd=>σ=[some (.ref p1),some (.int (n:Int)),some (.int (mo:Int)),some (.ref b),some (.ref f),some (.ref rw),some (.ref ob),some (.ref ba),some (.ref fo),some (.ref so),none]/\aM Hc Hd) ?q10 ?t10
  case t10 =>
   intro N Rc
   refine⟨_,rfl,_,rfl,ob,ba,n,mvB n rs bk,cj n rs fl,rfl,n6,hBo.mono s6c,bO,s6c _ _ eba,of',fun kr uk ks' Hk sk _ ek lk _ ka'=>?_⟩
   have ekj:=eQ.uniq bO okb' of' low' ka' kj
   subst ekj
   have few:=ka'.few low'
   have p6:2 ^ n<=64:=by
    have:2 ^ n<=2 ^ 6:=Vu (by decide) n6
    lia
   have kl:∀ c∈ks',c.length<=1000:=fun c hc=>by have:=few.2 c hc; lia
   have lu1:=lk.length
   have lu2:=lso.length
   refine⟨_,rfl,.ref kr,.ref so,.lst (ks'.map cD),rfl,.lst ek (by lia) (lk.rep kl),.lst (sk _ _ eso) (by lia) ((lso.mono sk).rep kl),?_,fun Hz sz=>⟨_,rfl,gq (Rc _ _ ⟨rfl,sk.trans sz⟩)⟩⟩
   rw[Dm.dep]
   have:=zb ks'
   lia
  case q10 =>
  rintro σ Hd ⟨rfl,sd⟩
  have s4d:=s4c.trans sd
  have s6d:=s6c.trans sd
  have erowd:=sd _ _ erowc
  refine bw (fun σ Hz=>True) ?qE ?tL
  case qE =>
   intro σ Hz _
   exact q Hz
  intro N Rc
  refine⟨_,rfl,_,rfl,by lia,by lia,iw (lo:=0) (n:=((n:Int)).toNat) (fun i σ Hx=>(∃ u,σ=[some (.ref p1),some (.int (n:Int)),some (.int (mo:Int)),some (.ref b),some (.ref f),some (.ref rw),some (.ref ob),some (.ref ba),some (.ref fo),some (.ref so),u])/\aM Hd Hx) ⟨⟨_,rfl⟩,aM.refl _⟩ ?_ (fun σ Hx h=>Rc _ _ trivial)⟩
  rintro i σ Hx hi0 ⟨⟨u,rfl⟩,sx⟩
  have hin:i < n:=by lia
  rw[Tp]
  refine gN ?_
  dsimp only
  have s6x:=s6d.trans sx
  have erowx:=sx _ _ erowd
  refine⟨_,rfl,_,rfl,_,rfl,_,rfl,rw,_,_,_,rfl,rfl,SqL.of erowx,o7 (by lia),ob,ba,n,dg rs i,mvB n rs bk,cj n rs fl,rfl,hBo.mono s6x,bO,s6x _ _ eba,of',fun m m' r1 H1 st st' s1 fr1 er1=>?_⟩
  have s41:=s4d.trans (sx.trans s1)
  refine⟨_,rfl,_,rfl,_,rfl,b,f,n,i,bk,fl,rfl,hB.mono s41,lb,s41 _ _ hf,of,fun m2 m2' r2 H2 st2 st2' s2 fr2 er2=>?_⟩
  have tb:(lV bk i).length=n:=by rw[bH]; exact lb
  have tok:=pQ (k:=i) okb
  have ht:=bJ tb tok of st2'
  have htm:=Bb pm tb tok (xX hpn i) of ht
  rw[HR pm lb hin] at htm
  have tb':(lV (mvB n rs bk) (dg rs i)).length=n:=by rw[bH]; exact bO
  rw[(bJ bO okb' of' st).uniq hh',(bJ tb' (pQ okb') of' st').uniq htm,JZ pm hh.1.1 ht.1.1 hin] at er1
  rw[(bJ lb okb of st2).uniq hh] at er2
  generalize eL:oR i hi (itF (Fd fl (lV bk i)) (rfF fl (lV bk i)) m2')=L at er1 er2
  have lL:∀ k∈L,k < n:=fun k hk=>by
   rw[← eL] at hk
   unfold oR at hk
   have:=List.mem_range.mp (List.mem_filter.mp hk).1
   rw[ht.1.1] at this
   exact this
  have lLl:L.length<=n:=by
   rw[← eL]
   unfold oR
   refine Q0 (Tc _ _) ?_
   rw[Qn,ht.1.1]
   exact PK _
  have erow2:=(s1.trans s2) _ _ erowx
  refine⟨r2,rfl,⟨_,SqL.of er2⟩,fun D hD=>cH (K:=K) (a:=r2) (xs:=L.map vN) (fun i ys σ' Hw=>(∃ u,σ'=[u,some (.ref rw)])/\aM H2 Hw/\Hw D=some (.lst ys)/\ys=((L.take i).map (dg rs)).map vN)
   ⟨⟨_,rfl⟩,au hD _,aj,rfl⟩ (fun i ys σ' Hw _ h=>⟨SqL.of (h.2.1 _ _ er2),h.2.2.1⟩) ?_ ?_⟩
  ·rintro i ys x σ' Hw hx ⟨⟨u,rfl⟩,sw,eD2,rfl⟩
   obtain⟨k,hk,rfl⟩:=rT hx
   have hkn:=lL k (Qu hk)
   refine gT ?_
   refine⟨_,rfl,_,rfl,rw,_,_,_,rfl,rfl,SqL.of (sw _ _ erow2),o7 (by lia),eD2,?_,⟨_,rfl⟩,aF sw hD _,aj,?_⟩
   ·rw[Pq,Pq,Qh]
    exact aD (by lia)
   ·rw[Qz,hk,PJ,PJ]
    rfl
  ·rintro ys σ' Hw ⟨_,sw,eD2,rfl⟩
   rw[Pq,Qg] at eD2
   refine⟨D,_,rfl,SqL.of (eD2.trans (by rw[eF])),by rw[Pq,Pq]; lia,fun ms pms so l hl=>?_⟩
   have ems:ms=iN (mvC rs L):=pU pms so
   subst ems
   have gn:=au hl (.lst ((iN (mvC rs L)).map V.int))
   have lm:(mvC rs L).length<=1000:=by
    unfold mvC
    rw[(cC _).length_eq,Pq]
    lia
   refine⟨.ref r1,.ref l,cD (mvC rs L),rfl,Ay ((s2.trans (sw.trans gn)) _ _ er1) lm,Ay (by rw[aj,eF]; rfl) lm,by rw[Gk]; decide,fun Hz sz=>⟨_,rfl,gq ⟨⟨_,rfl⟩,sx.trans (s1.trans (s2.trans (sw.trans (gn.trans sz))))⟩⟩⟩
theorem all_mk {l:W.OpenLaw} {w:QF} {K:Qp} {h:Q7} {mg:Rr->Option Value} {fa fq0 fq1 fq2 fq3 fq4 fq5 fq6 fq7 fq8 fq9 fq10 fq11 fq12 fq13 fq14 fq15 fq16 fq17 fq18 fq19 fq20 fq21 fq22 fq23 fq24 fq25 fq26 fq27 fq28 fq29 fq30 fq31 fq32 fq33 fq34 fq35 fq36:Addr} (X:K.In h) (G:h.Ns Qy mg) (hfa:mg "law" = some (.ref fa))
  (qq0:HasDef K "lifted" qM fq0)
  (qq1:HasDef K "all_hold" kh fq1)
  (qq2:HasDef K "any_holds" je fq2)
  (qq3:HasDef K "holds" vA fq3)
  (qq4:HasDef K "owes" CT fq4)
  (qq5:HasDef K "last_step" jr fq5)
  (qq6:HasDef K "what_is_due" gM fq6)
  (qq7:HasDef K "roof" zB fq7)
  (qq8:HasDef K "settled" mD fq8)
  (qq9:HasDef K "rise" Bm fq9)
  (qq10:HasDef K "fall" Ad fq10)
  (qq11:HasDef K "least" uI fq11)
  (qq12:HasDef K "greatest" jV fq12)
  (qq13:HasDef K "without" nJ fq13)
  (qq14:HasDef K "lost" Cj fq14)
  (qq15:HasDef K "held_step" iW fq15)
  (qq16:HasDef K "held" Am fq16)
  (qq17:HasDef K "risers" pJ fq17)
  (qq18:HasDef K "put_off" mV fq18)
  (qq19:HasDef K "knots" uy fq19)
  (qq20:HasDef K "_law_cell" kY fq20)
  (qq21:HasDef K "_law_draws" jo fq21)
  (qq22:HasDef K "_law_same" j5 fq22)
  (qq23:HasDef K "_law_under" jm fq23)
  (qq24:HasDef K "_law_crowd" jn fq24)
  (qq25:HasDef K "_law_term" kZ fq25)
  (qq26:HasDef K "_law_renamed" gO fq26)
  (qq27:HasDef K "_law_mine" j6 fq27)
  (qq28:HasDef K "_law_pledge" iD fq28)
  (qq29:HasDef K "_law_book" jR fq29)
  (qq30:HasDef K "_law_giving" iy fq30)
  (qq31:HasDef K "_law_scene" jj fq31)
  (qq32:HasDef K "_law_picks" jg fq32)
  (qq33:HasDef K "_law_order" jl fq33)
  (qq34:HasDef K "_law_moved" jk fq34)
  (qq35:HasDef K "_law_moved_book" eZ fq35)
  (qq36:HasDef K "law" HX fq36)
  (z_len:Um K Qy "len" = some none)
  (z_range:Um K Qy "range" = some none)
  (z_all:Um K Qy "all" = some none)
  (z_isinstance:Um K Qy "isinstance" = some none)
  (z_int:Um K Qy "int" = some none)
  (z_bool:Um K Qy "bool" = some none)
  (z_str:Um K Qy "str" = some none)
  (z_list:Um K Qy "list" = some none)
  (z_tuple:Um K Qy "tuple" = some none)
  (z_abs:Um K Qy "abs" = some none)
  (z_max:Um K Qy "max" = some none)
  (z_min:Um K Qy "min" = some none)
  (z_sum:Um K Qy "sum" = some none)
  (z_sorted:Um K Qy "sorted" = some none)
  (z_zip:Um K Qy "zip" = some none)
  (z_reversed:Um K Qy "reversed" = some none)
  (z_divmod:Um K Qy "divmod" = some none)
  (z_set:Um K Qy "set" = some none)
  (z_any:Um K Qy "any" = some none)
  (z_enumerate:Um K Qy "enumerate" = some none)
  : ∃ fd:Ui,(∀ (s:Pu) (v:Value),WX s fd ⟨[v],[]⟩ [("_law_script",v)])/\∀ base:Q7,K.In base->base.Ns Qy mg->eX l.prog w K mg base CX0 16 fa fd ["_law_script"] (FN K):=by
 have e:=hfa.symm.trans (qq36.name X G)
 cases e
 have B:Bt mg:=⟨Rp X G z_len,Rp X G z_range,Rp X G z_all,Rp X G z_isinstance,Rp X G z_int,Rp X G z_bool,Rp X G z_str,Rp X G z_list,Rp X G z_tuple,Rp X G z_abs,Rp X G z_max,Rp X G z_min,Rp X G z_sum,Rp X G z_sorted,Rp X G z_zip,Rp X G z_reversed,Rp X G z_divmod,Rp X G z_set,Rp X G z_any,Rp X G z_enumerate⟩
 obtain⟨_,Fq36,bq36⟩:=qq36.law (y:="_law_script") fun _ _ _ _ _ _ s v=>.of_eq rfl
 refine⟨_,bq36,fun base _ _=>?_⟩
 have Dq20:=qq20.df (P:=l.prog) (w:=w) (base:=base) X G (by k_bind2) fun _ Fq20=>uF Fq20 B
 have Dq21:=qq21.df (P:=l.prog) (w:=w) (base:=base) X G (by k_bind2) fun _ Fq21=>rG Fq21 B
 have Dq23:=qq23.df (P:=l.prog) (w:=w) (base:=base) X G (by k_bind2) fun _ Fq23=>tR Fq23 B
 have Dq24:=qq24.df (P:=l.prog) (w:=w) (base:=base) X G (by k_bind2) fun _ Fq24=>tU Fq24 B
 have Dq30:=qq30.df (P:=l.prog) (w:=w) (base:=base) X G (by k_bind3) fun _ Fq30=>pN Fq30 B Dq21
 have S0:Df l.prog w K mg base "_law_same" 0 ["_law_found","_law_due"] (pD 0):=qq22.df X G (by k_bind2) fun _ _=>same_none
 have S1:=qq22.df (P:=l.prog) (w:=w) (base:=base) X G (by k_bind2) fun _ Fq22=>gQ Fq22 B S0
 have S2:=qq22.df (P:=l.prog) (w:=w) (base:=base) X G (by k_bind2) fun _ Fq22=>gQ Fq22 B S1
 have S3:=qq22.df (P:=l.prog) (w:=w) (base:=base) X G (by k_bind2) fun _ Fq22=>gQ Fq22 B S2
 have S4:=qq22.df (P:=l.prog) (w:=w) (base:=base) X G (by k_bind2) fun _ Fq22=>gQ Fq22 B S3
 have T0:Df l.prog w K mg base "_law_term" 1 ["_law_cell_here","_law_n","_law_deep","_law_most"] (pB 0):=qq25.df X G (by k_bind4) fun _ _=>term_none
 have T1:=qq25.df (P:=l.prog) (w:=w) (base:=base) X G (by k_bind4) fun _ Fq25=>jh Fq25 B Dq21 Dq23 Dq24 T0
 have T2:=qq25.df (P:=l.prog) (w:=w) (base:=base) X G (by k_bind4) fun _ Fq25=>jh Fq25 B Dq21 Dq23 Dq24 T1
 have T3:=qq25.df (P:=l.prog) (w:=w) (base:=base) X G (by k_bind4) fun _ Fq25=>jh Fq25 B Dq21 Dq23 Dq24 T2
 have R0:Df l.prog w K mg base "_law_renamed" 0 ["_law_term_here","_law_row"] (vG K 0):=qq26.df X G (by k_bind2) fun _ _=>Ek
 have R1:=qq26.df (P:=l.prog) (w:=w) (base:=base) X G (by k_bind2) fun _ Fq26=>eG Fq26 B R0
 have R2:=qq26.df (P:=l.prog) (w:=w) (base:=base) X G (by k_bind2) fun _ Fq26=>eG Fq26 B R1
 have R3:=qq26.df (P:=l.prog) (w:=w) (base:=base) X G (by k_bind2) fun _ Fq26=>eG Fq26 B R2
 have Dq27:=qq27.df (P:=l.prog) (w:=w) (base:=base) X G (by k_bind5) fun _ Fq27=>uY Fq27 B T3 R3
 have Dq28:=qq28.df (P:=l.prog) (w:=w) (base:=base) X G (by k_bind5) fun _ Fq28=>pO Fq28 B Dq21 Dq23 Dq24 Dq27
 have Dq29:=qq29.df (P:=l.prog) (w:=w) (base:=base) X G (by k_bind4) fun _ Fq29=>uU Fq29 B Dq20 Dq21 Dq23 Dq28
 have Dq31:=qq31.df (P:=l.prog) (w:=w) (base:=base) X G (by k_bind1) fun _ Fq31=>sW Fq31 B Dq20 Dq21 Dq30 Dq29
 have H0:Df l.prog w K mg base "holds" 0 ["term","giving"] (jd K 0):=qq3.df X G (by k_bind2) fun _ _=>xV
 have A1:=qq1.df (P:=l.prog) (w:=w) (base:=base) X G (by k_bind2) fun _ Fq1=>gP Fq1 B H0
 have Y1:=qq2.df (P:=l.prog) (w:=w) (base:=base) X G (by k_bind2) fun _ Fq2=>fU Fq2 B H0
 have H1:=qq3.df (P:=l.prog) (w:=w) (base:=base) X G (by k_bind2) fun _ Fq3=>mq Fq3 B A1 Y1
 have A2:=qq1.df (P:=l.prog) (w:=w) (base:=base) X G (by k_bind2) fun _ Fq1=>gP Fq1 B H1
 have Y2:=qq2.df (P:=l.prog) (w:=w) (base:=base) X G (by k_bind2) fun _ Fq2=>fU Fq2 B H1
 have H2:=qq3.df (P:=l.prog) (w:=w) (base:=base) X G (by k_bind2) fun _ Fq3=>mq Fq3 B A2 Y2
 have A3:=qq1.df (P:=l.prog) (w:=w) (base:=base) X G (by k_bind2) fun _ Fq1=>gP Fq1 B H2
 have Y3:=qq2.df (P:=l.prog) (w:=w) (base:=base) X G (by k_bind2) fun _ Fq2=>fU Fq2 B H2
 have H3:=qq3.df (P:=l.prog) (w:=w) (base:=base) X G (by k_bind2) fun _ Fq3=>mq Fq3 B A3 Y3
 have A4:=qq1.df (P:=l.prog) (w:=w) (base:=base) X G (by k_bind2) fun _ Fq1=>gP Fq1 B H3
 have Y4:=qq2.df (P:=l.prog) (w:=w) (base:=base) X G (by k_bind2) fun _ Fq2=>fU Fq2 B H3
 have H4:=qq3.df (P:=l.prog) (w:=w) (base:=base) X G (by k_bind2) fun _ Fq3=>mq Fq3 B A4 Y4
 have Dq4:=qq4.df (P:=l.prog) (w:=w) (base:=base) X G (by k_bind2) fun _ Fq4=>JS Fq4 B H4
 have Dq5:=qq5.df (P:=l.prog) (w:=w) (base:=base) X G (by k_bind1) fun _ Fq5=>qW Fq5 B
 have Dq6:=qq6.df (P:=l.prog) (w:=w) (base:=base) X G (by k_bind3) fun _ Fq6=>oO Fq6 B Dq4
 have Dq7:=qq7.df (P:=l.prog) (w:=w) (base:=base) X G (by k_bind2) fun _ Fq7=>JF Fq7 B Dq5
 have Dq8:=qq8.df (P:=l.prog) (w:=w) (base:=base) X G (by k_bind3) fun _ Fq8=>yl Fq8 B Dq6
 have Dq9:=qq9.df (P:=l.prog) (w:=w) (base:=base) X G (by k_bind2) fun _ Fq9=>JP Fq9 B Dq8
 have Dq10:=qq10.df (P:=l.prog) (w:=w) (base:=base) X G (by k_bind2) fun _ Fq10=>JQ (by decide) Fq10 B Dq8 Dq7
 have Dq11:=qq11.df (P:=l.prog) (w:=w) (base:=base) X G (by k_bind2) fun _ Fq11=>Es Fq11 B Dq9
 have Dq12:=qq12.df (P:=l.prog) (w:=w) (base:=base) X G (by k_bind2) fun _ Fq12=>vM Fq12 B Dq10
 have Dq13:=qq13.df (P:=l.prog) (w:=w) (base:=base) X G (by k_bind3) fun _ Fq13=>yH Fq13 B Dq12
 have Dq14:=qq14.df (P:=l.prog) (w:=w) (base:=base) X G (by k_bind3) fun _ Fq14=>JD Fq14 B Dq12 Dq13
 have Dq32:=qq32.df (P:=l.prog) (w:=w) (base:=base) X G (by k_bind2) fun _ Fq32=>qX Fq32 B Dq21
 have R4:=qq26.df (P:=l.prog) (w:=w) (base:=base) X G (by k_bind2) fun _ Fq26=>eG Fq26 B R3
 have Dq0:=qq0.df (P:=l.prog) (w:=w) (base:=base) X G (by k_bind3) fun _ Fq0=>Ck Fq0 B
 have Dq15:=qq15.df (P:=l.prog) (w:=w) (base:=base) X G (by k_bind4) fun _ Fq15=>tG Fq15 B Dq4
 have Dq16:=qq16.df (P:=l.prog) (w:=w) (base:=base) X G (by k_bind3) fun _ Fq16=>Jm Fq16 B Dq15
 have Dq17:=qq17.df (P:=l.prog) (w:=w) (base:=base) X G (by k_bind2) fun _ Fq17=>Ac Fq17 B
 have Dq18:=qq18.df (P:=l.prog) (w:=w) (base:=base) X G (by k_bind4) fun _ Fq18=>yO Fq18 B Dq17 Dq0 Dq16
 have Dq19:=qq19.df (P:=l.prog) (w:=w) (base:=base) X G (by k_bind2) fun _ Fq19=>Ff (by decide) Fq19 B Dq11 Dq12 Dq18 Dq17
 have Dq33:=qq33.df (P:=l.prog) (w:=w) (base:=base) X G (by k_bind2) fun _ Fq33=>tV Fq33 B Dq32
 have Dq34:=qq34.df (P:=l.prog) (w:=w) (base:=base) X G (by k_bind2) fun _ Fq34=>ue Fq34 B
 have Dq35:=qq35.df (P:=l.prog) (w:=w) (base:=base) X G (by k_bind2) fun _ Fq35=>jU Fq35 B R4
 exact Mt Fq36 B Dq31 Dq33 Dq20 Dq35 Dq34 Dq9 Dq10 S3 Dq12 Dq11 Dq19 Dq14
theorem walk {l:W.OpenLaw} {q:Qt} {loose:List Rr} {XP:(Rr->Option Value)->Q7->Prop} {YP:QF->Q7->Prop} {d:DefRec} {K:Params->Qp} (hn:l.most=some 63) (hdf:d.params.defaults=[])
  (hY:∀ (w:QF) (h:Q7),YP w h->(K w.params).In h)
  (F:∀ (w:QF) (mg:Rr->Option Value) (fa:Addr) (h:Q7),(K w.params).In h->h.Ns Qy mg->mg d.name=some (.ref fa) →
   ∃ fd:Ui,(∀ (s:Pu) (u:Value),WX s fd ⟨[u],[]⟩ [("_law_script",u)])/\∀ base:Q7,(K w.params).In base->base.Ns Qy mg->eX l.prog w (K w.params) mg base CX0 16 fa fd ["_law_script"] (FN (K w.params))) :
  W.WalkO q loose XP YP l.row.toRowW d [] (fun f vs=>PySem.call f vs) :=
 L2.Ig (n:=63) (k:=16) (x:="_law_script") (CX:=fun _=>CX0) (sp:=fun w=>FN (K w.params)) hn (by decide) hdf ⟨rfl,by decide,by decide⟩ hY F (fun _ _ a ns hl _ hS=>⟨a,ns,rfl,hS,hl,fun _=>rfl⟩) fun _ _ _ _ _ z=>z
end My
end
open PySem PySem.W PyProof.Rows
namespace PySem.Challenge.cw_loveboon_k23_whole_folk_numbered_otherwi_holds
theorem tw13307044700060332234:True:=trivial
theorem tw6164734125354496719:True:=trivial
theorem tw15586809894873780607:True:=trivial
theorem tw18279904467798049010:True:=trivial
theorem tw16155013842109409597:True:=trivial
theorem tw8889175855837933361:True:=trivial
theorem tw1139536510716342352:True:=trivial
theorem tw7015076782234799996:True:=trivial
theorem tw13180589861563629818:True:=trivial
theorem tw14899265752982858616:True:=trivial
theorem tw3767945573716027561:True:=trivial
theorem tw13144235835055088781:True:=trivial
theorem tw17432113761124348164:True:=trivial
theorem tw7939874647076202174:True:=trivial
theorem tw3353562229543274228:True:=trivial
theorem tw16379359574072457561:True:=trivial
theorem tw4764370330838156344:True:=trivial
theorem tw10487465795381031840:True:=trivial
theorem tw2590053574160805820:True:=trivial
theorem tw12019998535329365791:True:=trivial
end PySem.Challenge.cw_loveboon_k23_whole_folk_numbered_otherwi_holds
set_option maxRecDepth 100000 in
set_option maxHeartbeats 0 in
theorem PySem.Challenge.cw_loveboon_k23_whole_folk_numbered_otherwi_holds : PySem.Challenge.rw_loveboon_k23_whole_folk_numbered_otherwi.Holds := by
 w_on; o_law; k_head; (case hw=>w_witness2)
 k_fill
 refine My.walk (l:=PySem.Challenge.rw_loveboon_k23_whole_folk_numbered_otherwi) rfl rfl (fun w h Y=>W.kIn_of Y) ?F
 case F =>
  intro w mg fa h KX G hmg
  refine' My.all_mk KX G hmg ?qq0 ?qq1 ?qq2 ?qq3 ?qq4 ?qq5 ?qq6 ?qq7 ?qq8 ?qq9 ?qq10 ?qq11 ?qq12 ?qq13 ?qq14 ?qq15 ?qq16 ?qq17 ?qq18 ?qq19 ?qq20 ?qq21 ?qq22 ?qq23 ?qq24 ?qq25 ?qq26 ?qq27 ?qq28 ?qq29 ?qq30 ?qq31 ?qq32 ?qq33 ?qq34 ?qq35 ?qq36 ?z_len ?z_range ?z_all ?z_isinstance ?z_int ?z_bool ?z_str ?z_list ?z_tuple ?z_abs ?z_max ?z_min ?z_sum ?z_sorted ?z_zip ?z_reversed ?z_divmod ?z_set ?z_any ?z_enumerate
  (case qq0=>k_four)
  (case qq1=>k_four)
  (case qq2=>k_four)
  (case qq3=>k_four)
  (case qq4=>k_four)
  (case qq5=>k_four)
  (case qq6=>k_four)
  (case qq7=>k_four)
  (case qq8=>k_four)
  (case qq9=>k_four)
  (case qq10=>k_four)
  (case qq11=>k_four)
  (case qq12=>k_four)
  (case qq13=>k_four)
  (case qq14=>k_four)
  (case qq15=>k_four)
  (case qq16=>k_four)
  (case qq17=>k_four)
  (case qq18=>k_four)
  (case qq19=>k_four)
  (case qq20=>k_four)
  (case qq21=>k_four)
  (case qq22=>k_four)
  (case qq23=>k_four)
  (case qq24=>k_four)
  (case qq25=>k_four)
  (case qq26=>k_four)
  (case qq27=>k_four)
  (case qq28=>k_four)
  (case qq29=>k_four)
  (case qq30=>k_four)
  (case qq31=>k_four)
  (case qq32=>k_four)
  (case qq33=>k_four)
  (case qq34=>k_four)
  (case qq35=>k_four)
  (case qq36=>k_four)
  (case z_len=>k_is)
  (case z_range=>k_is)
  (case z_all=>k_is)
  (case z_isinstance=>k_is)
  (case z_int=>k_is)
  (case z_bool=>k_is)
  (case z_str=>k_is)
  (case z_list=>k_is)
  (case z_tuple=>k_is)
  (case z_abs=>k_is)
  (case z_max=>k_is)
  (case z_min=>k_is)
  (case z_sum=>k_is)
  (case z_sorted=>k_is)
  (case z_zip=>k_is)
  (case z_reversed=>k_is)
  (case z_divmod=>k_is)
  (case z_set=>k_is)
  (case z_any=>k_is)
  (case z_enumerate=>k_is)
