import PyProof.Rows.All
import Wide.All
import OpenK.AllK
import Wide.FinOn
import Lean
import PyProof.EqAt
import PyProof.EqKinds
import PyProof.TupleCall
import PyProof.NeKinds
import PyProof.NsDelKeeps
import KE.IntTextLaws
import PyProof.StrOps2
import PyProof.FitsStr
import PySem.Challenge.RW_loveboon_k47_texts_that_write_no_term
noncomputable section
open Array renaming getElem?_eq_getElem→RT,length_toList→Tt,getD_eq_getD_getElem?→Uq,getElem?_toList→UL,getElem?_eq_none→Vz,append_assoc→Wv
open Bool renaming and_eq_true→Rp,false_ne_true→Rv,eq_iff_iff→Td,true_and→Tq,false_and→TY,or_eq_true→VF,or_true→WN,and_false→YD
open False renaming elim→SX
open ForInStep renaming yield→Vk
open Int renaming emod_lt_of_pos→Sg,emod_nonneg→Sy,toNat_natCast→Th,eq_ofNat_of_zero_le→Wy,zero_add→Xk
open List renaming length_map→Q8,mem_cons_self→Rc,length_append→Rf,length_cons→Rg,mem_cons_of_mem→Ri,length_singleton→Rk,getElem?_eq_getElem→Rn,replicate→Rq,map_append→Rx,size_toArray→Ry,getElem?_map→Rz,mem_append_right→RC,append_assoc→RG,mem_of_getElem?→RL,length_take→RN,getD_eq_getElem?_getD→RZ,take_length→R6,append_nil→Ss,take_add_one→SJ,cons_append→Tg,lookup_cons→Tr,mem_cons→Tu,map_cons→Tv,replicate_succ→Tz,nil_append→TF,getElem_toArray→TQ,not_mem_nil→T7,length_drop→T8,getElem?_append_right→Ua,range→Uc,pairwise_cons→Ul,contains_cons→Um,length_replicate→UJ,length_range→U6,take_of_length_le→Vd,eq_nil_or_concat→Vi,concat_eq_append→Vj,mem_of_mem_take→Vo,mem_append_left→Vp,map_map→Vq,foldl_cons→VD,getElem?_eq_none→VH,pairwise_map→VL,drop_zero→V8,getElem_mem→Wb,drop_eq_getElem_cons→Wc,getElem_of_mem→Wg,filterMap_cons→Wh,all_cons→Wl,mem_singleton→Wu,take_zero→WK,head?_eq_getElem?→WL,flatten_cons→WM,drop_length→W9,eq_nil_of_length_eq_zero→Xf,all_map→Xj,count_append→Xv,getElem?_replicate→XR,range_succ_eq_map→Yc,getElem?_set_self→Yd,drop_eq_nil_of_le→Ye,of_mem_zip→Yo,length_nil→Yp,take_append_drop→Ys,getElem?_toArray→Yt,replicate_succ'→YB,dropLast_concat→YC,take_succ_cons→YK,mem_map_of_mem→YL,drop_succ_cons→YM,any_eq_true→ZM,length→ZX,take_left'→Z3
open List.Pairwise renaming nil→Xw
open List.cons renaming inj→TJ
open Nat renaming le_refl→Rh,lt_of_lt_of_le→Rm,le_trans→RP,ne_of_lt→RX,zero_le→Sd,lt_of_le_of_lt→Sw,lt_irrefl→Sx,le_succ→Ud,lt_succ_of_lt→U5,mul_le_mul_right→Vm,le_of_lt→Vn,pow_pos→Vv,ne_of_gt→Vx,le_add_left→Wo,add_sub_cancel→Wt,lt_succ_self→W8,pow_succ→X8,lt_of_succ_lt_succ→Yb,one_mul→Yz,sub_self→Zv,not_lt_zero→Z2
open Nat.succ renaming inj→X7
open Ne renaming symm→Tw
open Option renaming filter_some→Vg,getD_some→XQ
open Option.some renaming inj→RQ
open Or renaming inl→RJ,inr→Zc
open Prod renaming fst→V7
open PyProof.Rows renaming step_dedup→SM,IntsAre→Ue,callWith_type1→Vc,AllBare→Xx,slot_tuple_getitem→Zz,callWith_builtin1→ZL
open PyProof.Rows.F renaming plain_set_update_loop→XS
open PySem renaming wpAny_bind→Q9,Shared→Ra,wpAny_pure→Rj,wpAny→Rt,model→Ru,mainGlobals→RM,Program→RV,starEach→R9,Around→Sh,wpAny_mono→Su,World→Sv,wpAny_newObj_type→SN,rawInt→Te,Heap→Tf,mem_of_lookup→Ti,bootBuiltins→Tj,FuncData→Tp,codeAny→T5,compareOp→T6,wpAny_loadPart_at→T9,wpAny_holding→Ug,wpAny_Call_Name_kw→Uk,wpAny_truthy_bool→Us,wpAny_setField→Ut,foldedSetIterable→Uu,eval→UG,wpAny_standAt→UW,wpAny_field→U0,Obj→U3,noteFrame→U4,letOwnedTupleGo→U8,wpAny_isSubtype_exc→U9,Scope→Va,codeAny_mono→Vl,wpAny_call_entry→Vr,wpAny_askSetting→Vs,excClassObj→Vu,binaryOp→VB,behindInMarks→VG,wpAny_setState_of→VJ,bindArgs→VM,SetTable→VR,intKind→Wa,backTo→We,Pos→Wi,wpAny_comprehension_free→Wj,compPost→Wk,codeAny_builtin→Wn,wpAny_getItem_str_slice→Ww,wpAny_callSpecial?_slot→Wx,Env→WQ,wpAny_call→WR,typeIs_str→WT,pickOrder→WW,checkBuiltinCall→WX,call_meets→WY,assignEach→W6,TriplesOk→W7,wpAny_newFunctionEnv→Xa,sliceBounds→Xb,codeAny_call_builtin→Xd,wpAny_passesOwn→Xg,pyNext→Xh,wpAny_setEntries_of→Xi,codeAmong→Xl,compEnvC→Xm,NameKind→Xp,wpAny_pyIter_enum→Xr,standAt→Xu,plainId_quiet→Xy,assign→Xz,again→XJ,codeAny_compStart_list→XX,BindsTo→Yg,wpAny_ite_false→Yh,wpAny_execs_nil→Yi,theTreesLotGoes→Yj,codeAny_of_tree→Yk,firstArgMember→Yu,Result→Yw,intText?→Yx,holding→YF,Arguments→YH,wpAny_attempt→YQ,Builtin→YW,wpAny_rule→YZ,typeLookup→Y5,pyIter→Y6,wpAny_pyIter_list→Zh,relayAll→Zi,compTurn→Zj,codeAny_loop→Zk,callerA→Zm,GenState→Zw,wpAny_isInstance→ZC,swapsWith→ZD,setFlight→ZF,noFill_tuple_add→ZG,inplaceOp→ZJ,Tok→ZK,IsPart→ZP,wpAny_of_eq→ZR,wpAny_noted→ZS,sizeLine_eq→ZV,Model→ZW,CmpOp→ZZ,wpAny_ite_split→Z0,setNext→Z4
open PySem.Around renaming under_plainId→V9
open PySem.Builtin.List renaming listTooLong→XH,listLengthHint→Z7,listExtendWith→Z8
open PySem.Builtin.Slice renaming slicePlaces→Wd,sliceAdjust→Xq
open PySem.Builtin.Str renaming strSliceIndices→RB,occurrences→U7
open PySem.Builtin.Tuple renaming tupleExact→Wm
open PySem.Calls renaming spliced_cons→Zg,spliced_nil→Zy
open PySem.Code renaming quiet_builtin→Zf
open PySem.F renaming plainAttrs_str→Sq,type_list_append→Uh,slot_list_append→Ui,plainAttrs_list→Uo,type_str_split→Uw,slot_str_split→Ux,args_tuple_add_2→XF,entry_tuple_add→XN,slot_tuple_add→X6,type_str_join→Yq,slot_str_join→Yr,args_str_split_2→Ze,entry_str_split→Zx,slot_str_split→ZQ,type_str_rpartition→Z5,slot_str_rpartition→Z6
open PySem.Heap renaming get?_push_of_some→Rb,lt_size→Ro,get?_push_size→RK,get?_update_self→R4,get?_update_other→R8,size_push→Uy,SameBut→Vy
open PySem.Heap.SameBut renaming update→Vb
open PySem.NameKind renaming free→Ur,cell→YX
open PySem.Obj renaming mapFields→Ub,data_mapFields→UT,isFreed_of_fields→Vh,mapSeq→Ws,putSet→Zd
open PySem.PassesOwn renaming never→TX
open PySem.SeqAt renaming EqAt→X5
open PySem.SeqAt.EqAt renaming int_int→Xn,same→Yl,str_int→Y9,of_refs→Za,int_str→Zb
open PySem.SetTable renaming below→TV,grown→VP
open PySem.SetTable.below renaming go→Wz
open PySem.SetTable.probe renaming go→Zr
open PySem.Str renaming ofString→X4
open PySem.StrLaws renaming subAt_eq→XM
open PySem.Txt renaming rpartition→V6,partition→Wf,endswith→Wr,split→Yn
open PySem.Value renaming ref→R5,none→SQ,type→VN,int→YG,builtin→YS,bool→Y7
open PySem.W renaming Frag→RD,Frag→R7,mg_none_of→Tn,kia_one→Uj,nsIn→Uv,hideAll→Uz,keepIn→Ve,kitOne→Vt,fnOf→Vw,findIn→VV,callWith_K→Wq,codeIn→WD,looks_findIn→Xe,of_hideAll→Xo,mg_of→XD,mg_of→X3,kla_obj→Ym,fnOf→Yv,hideAll_none→Yy,hideAll_get→YJ,Looks→YT,findIn→Zn,methodObj→Zt,hasDictIn→Zu,instObj→Z1
open PySem.W.Looks renaming here→Vf
open Sum renaming inr→Zo,inl→Zq
open True renaming intro→Y8
set_option Elab.async false
set_option linter.all false
set_option linter.defProp false
set_option compiler.extract_closed false
set_option maxRecDepth 100000
namespace L2
open PySem PySem.Spec PyProof.Rows
abbrev Key:=Sum Int Str
def Lj:Key->Value->Bool
 | .inl k,v=>Value.isInt k v
 | .inr x,v=>Value.isStrOf x v
def QH (w:Sv):Key->Int
 | .inl k=>hashInt k
 | .inr x=>hashStr w x
theorem cI:∀ {k:Key} {v:Value},Lj k v=true->(∃ i t,k=Zq i/\v=YG i t)∨(∃ x t,k=Zo x/\v=Value.str x t)
 | .inl i,v,h=>by
  obtain⟨t,e⟩:=Value.isInt_shape (k:=i) (v:=v) h
  exact .inl ⟨i,t,rfl,e⟩
 | .inr x,v,h=>by
  obtain⟨t,e⟩:=Value.isStrOf_shape (x:=x) (v:=v) h
  exact .inr ⟨x,t,rfl,e⟩
theorem Og (a b:Int):decide ((Zq a:Key)=Zq b)=(a == b):=by
 by_cases e:a=b
 ·subst e; simp
 ·have h:¬ (Zq a:Key)=Zq b:=fun q=>e (Sum.inl.inj q)
  rw[decide_eq_false h]
  exact (beq_eq_false_iff_ne.mpr e).symm
theorem NQ (a b:Str):decide ((Zo a:Key)=Zo b)=decide (a=b):=by
 by_cases e:a=b
 ·subst e; simp
 ·have h:¬ (Zo a:Key)=Zo b:=fun q=>e (Sum.inr.inj q)
  rw[decide_eq_false h,decide_eq_false e]
theorem Nj (a:Int) (b:Str):decide ((Zq a:Key)=Zo b)=false:=decide_eq_false (fun q=>nomatch q)
theorem Nx (a:Str) (b:Int):decide ((Zo a:Key)=Zq b)=false:=decide_eq_false (fun q=>nomatch q)
def Bv (prog:RV) (w:Sv):PySem.KeyKind prog w Key where
 is:=Lj
 hash:=QH w
 inj:=fun v a b ha hb=>by
  rcases cI ha with⟨i,t,rfl,rfl⟩ | ⟨x,t,rfl,rfl⟩
  ·rcases cI hb with⟨j,u,rfl,e⟩ | ⟨y,u,rfl,e⟩
   ·injection e with e1 _; rw[e1]
   ·exact nomatch e
  ·rcases cI hb with⟨j,u,rfl,e⟩ | ⟨y,u,rfl,e⟩
   ·exact nomatch e
   ·injection e with e1 _; rw[e1]
 byValue:=fun k v h=>by
  rcases cI h with⟨i,t,rfl,rfl⟩ | ⟨x,t,rfl,rfl⟩ <;> rfl
 pyHash:=fun hv h=>by
  rcases cI hv with⟨i,t,rfl,rfl⟩ | ⟨x,t,rfl,rfl⟩
  ·exact wpAny_pyHash_int h
  ·exact wpAny_pyHash_str h
 eqBool:=fun hu hv h=>by
  rcases cI hu with⟨i,t,rfl,rfl⟩ | ⟨x,t,rfl,rfl⟩
  ·rcases cI hv with⟨j,u,rfl,rfl⟩ | ⟨y,u,rfl,rfl⟩
   ·rw[Og] at h; exact wpAny_eqBool_int h
   ·rw[Nj] at h; exact Zb i t y u _ _ _ _ h
  ·rcases cI hv with⟨j,u,rfl,rfl⟩ | ⟨y,u,rfl,rfl⟩
   ·rw[Nx] at h; exact Y9 x t j u _ _ _ _ h
   ·rw[NQ] at h; exact wpAny_eqBool_str h
 «strs»:=fun k x t v h=>by
  rcases cI h with⟨i,u,rfl,e⟩ | ⟨y,u,rfl,e⟩
  ·exact nomatch e
  ·injection e with e1 _
   subst e1
   cases v <;> rfl
end L2
namespace L2
open PySem PySem.Spec PyProof.Rows
inductive V where
 | non | bl (b:Bool) | int (i:Int) | str (x:Str) | byt (b:Array UInt8) | flt (b:UInt64) | ref (a:Addr) | ty (n:String)
 deriving DecidableEq
def RelV:V->Value->Prop
 | .non,u=>u=SQ
 | .bl b,u=>u=Y7 b
 | .int i,u=>∃ t,u=YG i t
 | .str x,u=>∃ t,u=Value.str x t
 | .byt b,u=>∃ t,u=Value.bytes b t
 | .flt b,u=>∃ t,u=Value.float b t
 | .ref a,u=>u=R5 a
 | .ty n,u=>u=VN n
abbrev Vals:List V->List Value->Prop:=Paired RelV
theorem Vals.length {xs:List V} {us:List Value} (r:Vals xs us):xs.length=us.length:=Paired.length r
theorem Vals.get:∀ {xs:List V} {us:List Value} {i:Nat} {x:V},Vals xs us->xs[i]? = some x->∃ u,us[i]? = some u/\RelV x u
 | _,_,_,_,.nil,e=>by simp at e
 | _,_,0,_,.cons r _,e=>by simp at e; subst e; exact⟨_,rfl,r⟩
 | _,_,i+1,x,.cons _ t,e=>by
  obtain⟨u,h1,h2⟩:=Vals.get (i:=i) (x:=x) t (by simpa using e)
  exact⟨u,by simpa using h1,h2⟩
theorem Vals.set {x:V} {u:Value} (r:RelV x u):∀ {xs:List V} {us:List Value} (i:Nat),Vals xs us->Vals (xs.set i x) (us.set i u)
 | _,_,_,.nil=>.nil
 | _,_,0,.cons _ t=>.cons r t
 | _,_,i+1,.cons q t=>.cons q (Vals.set r i t)
theorem Vals.append:∀ {xs ys:List V} {us ws:List Value},Vals xs us->Vals ys ws->Vals (xs++ys) (us++ws)
 | _,_,_,_,.nil,s=>s
 | _,_,_,_,.cons r t,s=>.cons r (Vals.append t s)
theorem Vals.take:∀ {xs:List V} {us:List Value} (n:Nat),Vals xs us->Vals (xs.take n) (us.take n)
 | _,_,0,_=>.nil
 | _,_,_+1,.nil=>.nil
 | _,_,n+1,.cons r t=>.cons r (Vals.take n t)
theorem Vals.drop:∀ {xs:List V} {us:List Value} (n:Nat),Vals xs us->Vals (xs.drop n) (us.drop n)
 | _,_,0,r=>r
 | _,_,_+1,.nil=>.nil
 | _,_,n+1,.cons _ t=>Vals.drop n t
def HR:Option V->Option Value->Prop
 | some v,some u=>RelV v u
 | none,none=>True
 | _,_=>False
def KV {κ:Type}:List (κ × V)->List (κ × Value)->Prop:=Paired fun (p:κ × V) (q:κ × Value)=>p.1=q.1/\RelV p.2 q.2
def kV:Key->V
 | .inl i=>.int i
 | .inr x=>.str x
inductive HO where
 /-- a list -/
 | lst (xs:List V)
 /-- a tuple (never changes) -/
 | tup (xs:List V)
 /-- a dict whose keys are ints and texts; one whose keys are tuples of ints and texts (the empty one is both) -/
 | dK (kvs:List (Key × V)) | dT (kvs:List (List Key × V))
 /-- a set of ints: its members,its size -/
 | set (S:Int->Bool) (n:Nat)
 /-- an instance of the class at C,its dict at dx,its attributes -/
 | ins (C dx:Addr) (fs:List (Str × V))
 /-- the dict of the instance at x -/
 | own (x:Addr)
 /-- the dict of an exception -/
 | xd (fs:List (Str × V))
 /-- a bound method,f of x -/
 | met (f x:Addr)
 /-- a range object lo,lo+1,.. below hi -/
 | rng (lo hi:Int)
 /-- a thing that is known to the object (the script; a dict while a loop walks it): read,never written while it is so -/
 | frz (o:U3) (u:HO)
 /-- a code object's table -/
 | tbl (ps:Array Value)
 /-- any other thing,by what is true of its one object (a def of one's own: SetO a S n:=HO.ext fun h=>..) -/
 | ext (φ:Tf->Prop)
abbrev Hp:=Addr->Option HO
def upd (H:Hp) (a:Addr) (o:HO):Hp:=fun b=>if b=a then some o else H b
theorem aj {H:Hp} {a:Addr} {o:HO}:upd H a o a=some o:=by unfold upd; rw[if_pos rfl]
theorem aR {H:Hp} {a b:Addr} {o:HO} (h:b≠a):upd H a o b=H b:=by unfold upd; rw[if_neg h]
theorem cP {H:Hp} {a b:Addr} {o:HO} (h:H a=some o) (h':H b=none):a≠b:=by
 intro e; subst e; rw[h] at h'; cases h'
section
variable (P:RV) (w:Sv)
def fV (H:Hp) (h:Tf) (a:Addr):HO->Prop
 | .lst xs=>xs.length<=sizeLine/\∃ (its:List Value) (n:Nat),Vals xs its/\h.get? a=some { cls:=.type "list",data:=.seq its.toArray n }
 | .tup xs=>xs.length<=sizeLine/\∃ its:List Value,Vals xs its/\IsTup h a its.toArray
 | .dK kvs=>kvs.length<=sizeLine/\(a == sysModules)=false/\∃ vs,KV kvs vs/\h.DictOf (Bv P w) a vs
 | .dT kvs=>kvs.length<=sizeLine/\(a == sysModules)=false/\∃ xs:List (List Key × Addr × Value),
   Paired (fun (p:List Key × V) (q:List Key × Addr × Value)=>p.1=q.1/\H q.2.1=some (.tup (p.1.map kV))/\RelV p.2 q.2.2) kvs xs ∧
   ∃ o es ep,h.get? a=some o/\o.ExactDict/\o.data = .dict es ep/\es.toList=xs.map (entryOfKey (tupleKind (Bv P w)))/\(xs.map (·.1)).Nodup
 | .set S n=>h.SetOf (Wa P w) a S n
 | .ins C dx fs=>H dx=some (.own a)/\fs.length<=1000/\dx≠a/\h.get? a=some (Z1 C dx) ∧
   ∃ mA,h.Ns1 dx mA/\(∀ f,HR (fs.lookup f) (mA f))/\PySem.Within mA (fs.map (·.1))
 | .own _=>∃ o,h.get? a=some o
 | .xd fs=>∃ mA,h.Ns1 a mA/\∀ f,HR (fs.lookup f) (mA f)
 | .rng lo hi=>∃ t u v,h.get? a=some { cls:=.type "range",data:=.fields #[.int lo t,.int hi u,.int 1 v] }
 | .frz o u=>h.get? a=some o/\fV H h a u
 | .tbl ps=>h.get? a=some { cls:=.none,data:=.fields ps }
 | .met f x=>h.get? a=some (Zt (.ref f) (.ref x))
 | .ext φ=>φ h/\(∃ o,h.get? a=some o)/\∀ h1 h2:Tf,φ h1->(∀ o,h1.get? a=some o->h2.get? a=some o)->φ h2
def HOk (H:Hp) (h:Tf):Prop:=∀ a o,H a=some o->fV P w H h a o
end
section
variable {P:RV} {w:Sv} {H H':Hp} {h h':Tf} {a:Addr} {o:HO}
theorem fV.lt (x:fV P w H h a o):a < h.objs.size:=by
 cases o with
 | lst xs=>obtain⟨_,_,_,_,e⟩:=x; exact Ro e
 | tup xs=>obtain⟨_,_,_,p⟩:=x; exact p.lt
 | dK kvs=>obtain⟨_,_,_,_,o,_,_,e,_⟩:=x; exact Ro e
 | dT kvs=>obtain⟨_,_,_,_,o,_,_,e,_⟩:=x; exact Ro e
 | set S n=>obtain⟨o,_,_,_,e,_⟩:=x; exact Ro e
 | ins C dx fs=>obtain⟨_,_,_,e,_⟩:=x; exact Ro e
 | own y=>obtain⟨_,e⟩:=x; exact Ro e
 | xd fs=>obtain⟨_,⟨_,_,_,e,_⟩,_⟩:=x; exact Ro e
 | rng lo hi=>obtain⟨_,_,_,e⟩:=x; exact Ro e
 | frz ob u=>obtain⟨e,_⟩:=x; exact Ro e
 | tbl ps=>exact Ro (show h.get? a=some _ from x)
 | met f y=>exact Ro (show h.get? a=some _ from x)
 | ext φ=>obtain⟨_,⟨_,e⟩,_⟩:=x; exact Ro e
theorem Paired.Qt {α β:Type} {F G:α->β->Prop}:∀ {l₁:List α} {l₂:List β},Paired F l₁ l₂->(∀ a b,F a b->G a b)->Paired G l₁ l₂
 | _,_,.nil,_=>.nil
 | _,_,.cons r t,f=>.cons (f _ _ r) (Paired.Qt t f)
theorem fV.stay (x:fV P w H h a o) (k:∀ b u,(b=a∨H b=some (.own a))->h.get? b=some u->h'.get? b=some u)
  (ho:∀ b,H b=some (.own a)->H' b=some (.own a)) (ht:∀ b xs,H b=some (.tup xs)->H' b=some (.tup xs)):fV P w H' h' a o:=by
 induction o with
 | lst xs=>obtain⟨z,its,n,r,e⟩:=x; exact⟨z,its,n,r,k _ _ (.inl rfl) e⟩
 | tup xs=>obtain⟨z,its,r,ob,e,c⟩:=x; exact⟨z,its,r,ob,k _ _ (.inl rfl) e,c⟩
 | dK kvs=>obtain⟨z,y,vs,r,ob,es,ep,e,c⟩:=x; exact⟨z,y,vs,r,ob,es,ep,k _ _ (.inl rfl) e,c⟩
 | dT kvs =>
  obtain⟨z,y,xs,r,ob,es,ep,e,c⟩:=x
  exact⟨z,y,xs,Paired.Qt r fun p q z=>⟨z.1,ht _ _ z.2.1,z.2.2⟩,ob,es,ep,k _ _ (.inl rfl) e,c⟩
 | set S n=>obtain⟨ob,es,ep,t,e,c⟩:=x; exact⟨ob,es,ep,t,k _ _ (.inl rfl) e,c⟩
 | ins C dx fs =>
  obtain⟨d,z,ne,e,mA,⟨od,es,ep,e2,c⟩,r⟩:=x
  exact⟨ho _ d,z,ne,k _ _ (.inl rfl) e,mA,⟨od,es,ep,k _ _ (.inr d) e2,c⟩,r⟩
 | own y=>obtain⟨ob,e⟩:=x; exact⟨ob,k _ _ (.inl rfl) e⟩
 | xd fs=>obtain⟨mA,⟨od,es,ep,e,c⟩,r⟩:=x; exact⟨mA,⟨od,es,ep,k _ _ (.inl rfl) e,c⟩,r⟩
 | rng lo hi=>obtain⟨t,u,v,e⟩:=x; exact⟨t,u,v,k _ _ (.inl rfl) e⟩
 | frz ob u ih=>obtain⟨e,q⟩:=x; exact⟨k _ _ (.inl rfl) e,ih q⟩
 | tbl ps =>
  have e:h.get? a=some { cls:=.none,data:=.fields ps }:=x
  show h'.get? a=some { cls:=.none,data:=.fields ps }
  exact k a _ (.inl rfl) e
 | met f y =>
  have e:h.get? a=some (Zt (.ref f) (.ref y)):=x
  show h'.get? a=some (Zt (.ref f) (.ref y))
  exact k a _ (.inl rfl) e
 | ext φ=>obtain⟨p,⟨o,e⟩,st⟩:=x; exact⟨st _ _ p fun o q=>k _ _ (.inl rfl) q,⟨o,k _ _ (.inl rfl) e⟩,st⟩
theorem HOk.lt (x:HOk P w H h) (e:H a=some o):a < h.objs.size:=(x a o e).lt
theorem HOk.fresh (x:HOk P w H h) (e:h.objs.size<=a):H a=none:=by
 cases q:H a with
 | none=>rfl
 | some u=>exact absurd (Rm (x.lt q) e) (Sx _)
theorem HOk.kept (x:HOk P w H h) (k:∀ b u,h.get? b=some u->h'.get? b=some u):HOk P w H h':=fun a o e =>
 (x a o e).stay (fun b u _ q=>k b u q) (fun _ q=>q) fun _ _ q=>q
theorem HOk.laid (x:HOk P w H h) (k:∀ b u,h.get? b=some u->h'.get? b=some u) (hp:h.objs.size<=a) (new:fV P w (upd H a o) h' a o):HOk P w (upd H a o) h':=fun b u e=>by
 have hn:=x.fresh hp
 by_cases hb:b=a
 ·subst hb; rw[aj] at e; cases e; exact new
 ·rw[aR hb] at e
  exact (x b u e).stay (fun c v _ q=>k c v q) (fun c q=>by rw[aR (cP q hn)]; exact q) fun c xs q=>by rw[aR (cP q hn)]; exact q
end
def Rd (H:Hp) (a:Addr) (u:HO):Prop:=H a=some u∨∃ o,H a=some (.frz o u)
theorem Rd.ok {P:RV} {w:Sv} {H:Hp} {h:Tf} {a:Addr} {u:HO} (r:Rd H a u) (x:HOk P w H h):fV P w H h a u:=by
 rcases r with r | ⟨o,r⟩
 ·exact x a u r
 ·obtain⟨_,q⟩:=x a _ r
  exact q
def Mut:Option HO->Prop
 | some (.lst _)=>True
 | some (.dK _)=>True
 | some (.dT _)=>True
 | some (.set _ _)=>True
 | some (.ins _ _ _)=>True
 | some (.ext _)=>True
 | _=>False
section
variable {P:RV} {w:Sv} {H:Hp} {h h':Tf} {x e:Addr} {o':HO}
theorem HOk.write (ok:HOk P w H h) (mu:Mut (H x)) (he:e=x∨H e=some (.own x)) (k:∀ b u,b≠e->h.get? b=some u->h'.get? b=some u) (heo:∃ u,h'.get? e=some u)
  (new:fV P w (upd H x o') h' x o'):HOk P w (upd H x o') h':=fun b u q=>by
 have nown:∀ c y,H c=some (.own y)->c≠x:=fun c y r z=>by subst z; rw[r] at mu; exact mu
 have ntup:∀ c xs,H c=some (.tup xs)->c≠x:=fun c xs r z=>by subst z; rw[r] at mu; exact mu
 by_cases hb:b=x
 ·subst hb; rw[aj] at q; cases q; exact new
 ·rw[aR hb] at q
  by_cases hbe:b=e
  ·have q':H b=some (.own x):=by
    rcases he with z | z
    ·exact absurd (hbe.trans z) hb
    ·rw[hbe]; exact z
   rw[q] at q'; cases q'
   obtain⟨v,hv⟩:=heo
   exact⟨v,by rw[hbe]; exact hv⟩
  ·refine (ok b u q).stay (fun c v hc r=>k c v ?_ r) (fun c r=>by rw[aR (nown c b r)]; exact r) fun c xs r=>by rw[aR (ntup c xs r)]; exact r
   rcases hc with rfl | hc
   ·exact hbe
   ·rintro rfl
    rcases he with z | z
    ·exact nown c b hc z
    ·rw[hc] at z; cases z; exact hb rfl
end
structure Un (fs ex:List Addr) (H H':Hp) (h h':Tf):Prop where
 keep:∀ b o,h.get? b=some o->H b=none->b ∉ fs->b ∉ ex->h'.get? b=some o
 slot:∀ b o,h.get? b=some o->H b=none->b∈fs->b ∉ ex->∃ sl,h'.get? b=some { o with slots:=sl }
 free:∀ b o,h.get? b=some o->H b=none->b ∉ ex->H' b=none
 there:∀ b o,h.get? b=some o->b ∉ ex->∃ o',h'.get? b=some o'
 tups:∀ b xs,H b=some (.tup xs)->H' b=some (.tup xs)
 frzs:∀ b o u,H b=some (.frz o u)->H' b=some (.frz o u)
 tbls:∀ b ps,H b=some (.tbl ps)->∃ more,H' b=some (.tbl (ps++more))
section
variable {fs fs' ex ex':List Addr} {H H1 H2:Hp} {h h1 h2 h':Tf} {a x e:Addr} {o:HO}
theorem Un.any (u:Un fs ex H H1 h h1) {b:Addr} {ob:U3} (q:h.get? b=some ob) (n:H b=none) (hx:b ∉ ex):∃ sl,h1.get? b=some { ob with slots:=sl }:=by
 by_cases hb:b∈fs
 ·exact u.slot b ob q n hb hx
 ·exact⟨ob.slots,u.keep b ob q n hb hx⟩
theorem Un.trans (a:Un fs ex H H1 h h1) (b:Un fs ex H1 H2 h1 h2):Un fs ex H H2 h h2 where
 keep:=fun c ob q n hc hx=>b.keep c ob (a.keep c ob q n hc hx) (a.free c ob q n hx) hc hx
 slot:=fun c ob q n hc hx=>by
  obtain⟨sl,e1⟩:=a.slot c ob q n hc hx
  obtain⟨sl',e2⟩:=b.slot c _ e1 (a.free c ob q n hx) hc hx
  exact⟨sl',e2⟩
 free:=fun c ob q n hx=>by
  obtain⟨o',e1⟩:=a.there c ob q hx
  exact b.free c o' e1 (a.free c ob q n hx) hx
 there:=fun c ob q hx=>by
  obtain⟨o',e1⟩:=a.there c ob q hx
  exact b.there c o' e1 hx
 tups:=fun c xs q=>b.tups c xs (a.tups c xs q)
 frzs:=fun c ob xs q=>b.frzs c ob xs (a.frzs c ob xs q)
 tbls:=fun c ps q=>by
  obtain⟨m1,e1⟩:=a.tbls c ps q
  obtain⟨m2,e2⟩:=b.tbls c _ e1
  exact⟨m1++m2,by rw[e2,Wv]⟩
theorem Un.kept (k:∀ b u,h.get? b=some u->h'.get? b=some u):Un fs ex H H h h' :=
 ⟨fun b ob q _ _ _=>k b ob q,fun b ob q _ _ _=>⟨ob.slots,k b ob q⟩,fun _ _ _ n _=>n,fun b ob q _=>⟨ob,k b ob q⟩,fun _ _ q=>q,fun _ _ _ q=>q,fun _ ps q=>⟨#[],by rw[q]; simp⟩⟩
theorem Un.refl:Un fs ex H H h h:=Un.kept fun _ _ q=>q
theorem Un.laid (k:∀ b u,h.get? b=some u->h'.get? b=some u) (hp:h.objs.size<=a) (hn:H a=none):Un fs ex H (upd H a o) h h' where
 keep:=fun b u q _ _ _=>k b u q
 slot:=fun b u q _ _ _=>⟨u.slots,k b u q⟩
 free:=fun b u q n _=>by rw[aR (RX (Rm (Ro q) hp))]; exact n
 there:=fun b u q _=>⟨u,k b u q⟩
 tups:=fun b xs q=>by rw[aR (cP q hn)]; exact q
 frzs:=fun b u xs q=>by rw[aR (cP q hn)]; exact q
 tbls:=fun b ps q=>⟨#[],by rw[aR (cP q hn),q]; simp⟩
theorem Un.write (mu:Mut (H x)) (he:e=x∨H e=some (.own x)) (k:∀ b u,b≠e->h.get? b=some u->h'.get? b=some u) (heo:∃ u,h'.get? e=some u):Un fs ex H (upd H x o) h h':=by
 have hx:∀ b,H b=none->b≠x:=fun b n z=>by subst z; rw[n] at mu; exact mu
 have hb:∀ b,H b=none->b≠e:=fun b n z=>by
  subst z
  rcases he with r | r
  ·exact hx b n r
  ·rw[n] at r; cases r
 have hm:∀ b u,H b=some u->¬ Mut (some u)->b≠x:=fun b u q nm z=>by subst z; rw[q] at mu; exact nm mu
 refine⟨fun b u q n _ _=>k b u (hb b n) q,fun b u q n _ _=>⟨u.slots,k b u (hb b n) q⟩,fun b u q n _=>by rw[aR (hx b n)]; exact n,fun b u q _=>?_,
  fun b xs q=>by rw[aR (hm b _ q fun z=>z)]; exact q,fun b u xs q=>by rw[aR (hm b _ q fun z=>z)]; exact q,fun b ps q=>⟨#[],by rw[aR (hm b _ q fun z=>z),q]; simp⟩⟩
 by_cases hbe:b=e
 ·subst hbe; exact heo
 ·exact⟨u,k b u hbe q⟩
end
def trk (h:Tf) (H:Hp):List Addr:=(Uc h.objs.size).filter fun a=>(H a).isSome
def Hm (h:Tf) (H:Hp):Tf:=Uz h (trk h H)
theorem Bf (h:Tf) (H:Hp):(Hm h H).objs.size=h.objs.size:=PySem.W.hideAll_size _ _
theorem FQ {h:Tf} {H:Hp} {b:Addr} {o:U3} (e:h.get? b=some o) (n:H b=none):(Hm h H).get? b=some o :=
 YJ _ e fun hm=>by
  have q:(H b).isSome=true:=(List.mem_filter.mp hm).2
  rw[n] at q; simp at q
theorem KJ {h:Tf} {H:Hp} {b:Addr} {o:U3} (e:(Hm h H).get? b=some o):h.get? b=some o/\H b=none:=by
 have e':h.get? b=some o:=Xo (trk h H) e
 refine⟨e',?_⟩
 cases q:H b with
 | none=>rfl
 | some x =>
  have hm:b∈trk h H:=List.mem_filter.mpr ⟨List.mem_range.mpr (Ro e'),by simp [q]⟩
  have z:(Hm h H).get? b=none:=Yy (trk h H) hm
  rw[z] at e; cases e
def J6 (g h:Tf) (L:Addr):List (Addr × U3):=(Uc h.objs.size).filterMap fun a=>if a=L∨(g.get? a).isSome=true then none else (h.get? a).map fun o=>(a,o)
def rest (g h:Tf) (L d:Addr):List (Addr × U3):=(J6 g h L).filter fun p=>decide (p.1≠d)
end L2
namespace L2
open PySem PySem.Spec PyProof.Rows
structure Mod (K:RD) (mg:Str->Option Value) (base:Tf):Prop where
 kin:K.In base
 glob:base.Ns RM mg
 blt:∃ mb,base.Ns builtinsNs mb/\∀ x:Str,x≠"__name__"->mb x=Tj x
 nolimit:base.NoLimit
structure Cx where
 prog:RV
 w:Sv
 K:RD
 mg:Str->Option Value
 base:Tf
 A:Sh
 N:List Str
 s₀:Ra
 H₀:Hp
 env:WQ
 outer:List WQ
 stack:List WQ
 ex:List Addr
 fn:Str->Bool
 calm:Bool
 pn:List (Addr × U3)
 xe:Value->Ra->Prop
def frs (l:List WQ):List Addr:=l.filterMap (·.frame)
abbrev Cx.fs (X:Cx):List Addr:=frs X.outer
def Vis (sc:Va) (x:Str):Prop:=sc.names.lookup x=some .local∨sc.names.lookup x=some .cell∨sc.names.lookup x=some .free
def Loc (sc:Va) (x:Str):Prop:=sc.names.lookup x=some .local∨sc.names.lookup x=some .cell
def Look (env:WQ) (h:Tf) (m:Str->Option Value) (x:Str) (u:Value):Prop :=
 (env.kindOf x=some .local/\m x=some u)∨((env.kindOf x=some .cell∨env.kindOf x=some .free)/\∃ c,env.cells.lookup x=some c/\h.IsCell c (some u))
structure Cx.Ok (X:Cx):Prop where
 mod:Mod X.K X.mg X.base
 kind:X.env.scope.kind = .function
 glob:X.env.globals=RM
 blt:X.env.builtins=builtinsNs
 above:X.s₀.heap.objs.size<=X.env.locals
 inj:∀ x y c,X.env.cells.lookup x=some c->X.env.cells.lookup y=some c->x=y
 has:∀ x,(X.env.kindOf x=some .cell∨X.env.kindOf x=some .free)->∃ c,X.env.cells.lookup x=some c
 cab:∀ x c,X.fn x=true->X.env.cells.lookup x=some c->X.s₀.heap.objs.size<=c
 hd:X.calm=true->X.A.handled=none
 frames:X.A.frames=some X.stack
 stk:X.stack=X.outer∨(X.stack=X.env::X.outer/\X.env.frame=some X.env.locals)
 exf:∀ b∈X.ex,b≠X.env.locals/\∀ x c,X.env.cells.lookup x=some c->c≠b
 bs:∀ b o,X.base.get? b=some o->X.s₀.heap.get? b=some o/\X.H₀ b=none
 bsz:X.base.objs.size<=X.s₀.heap.objs.size
 noex:∀ b o,X.base.get? b=some o->b ∉ X.ex
 exfs:∀ b∈X.ex,b ∉ X.fs
 rH:X.s₀.heap.FunFrames X.base X.outer
 frf:∀ b∈X.fs,X.H₀ b=none
structure Inv (X:Cx) (pins:List (Addr × U3)) (σ:List (Option V)) (H:Hp) (s:Ra):Prop where
 ok:X.Ok
 os:s.os=X.s₀.os
 bare:Xx s.gens
 base:Un X.fs X.ex X.H₀ H X.s₀.heap s.heap
 loc:∃ m,s.heap.Ns X.env.locals m/\∀ (i:Nat) (x:Str) (v:V),X.N[i]? = some x->σ[i]? = some (some v)->Vis X.env.scope x->∃ u,RelV v u/\Look X.env s.heap m x u
 cell:∀ x c,X.env.cells.lookup x=some c->∃ v,s.heap.IsCell c v
 free:H X.env.locals=none
 freeC:∀ x c,X.env.cells.lookup x=some c->H c=none
 pin:∀ p∈X.pn++pins,s.heap.get? p.1=some p.2/\H p.1=none/\p.1≠X.env.locals/\p.1 ∉ X.fs/\∀ v,p.2.data≠.cell v
 hok:HOk X.prog X.w H s.heap
 len:σ.length=X.N.length
section
variable {X:Cx} {pins:List (Addr × U3)} {σ:List (Option V)} {H H':Hp} {s:Ra} {h':Tf}
theorem Cx.Ok.Q0 (ok:X.Ok) {b:Addr} {o:U3} (e:X.base.get? b=some o):b ∉ X.fs:=fun hb=>by
 have:=(ok.rH.mem hb).1
 rw[e] at this; cases this
theorem Inv.bs (I:Inv X pins σ H s):∀ b o,X.base.get? b=some o->s.heap.get? b=some o/\H b=none:=fun b o e =>
 ⟨I.base.keep b o (I.ok.bs b o e).1 (I.ok.bs b o e).2 (I.ok.Q0 e) (I.ok.noex b o e),I.base.free b o (I.ok.bs b o e).1 (I.ok.bs b o e).2 (I.ok.noex b o e)⟩
theorem Inv.bk (I:Inv X pins σ H s):∀ b o,X.base.get? b=some o->s.heap.get? b=some o:=fun b o e=>(I.bs b o e).1
theorem Inv.mod (I:Inv X pins σ H s):Mod X.K X.mg X.base:=I.ok.mod
theorem Inv.kIn (I:Inv X pins σ H s):X.K.In s.heap:=I.ok.mod.kin.keeps I.bk
theorem Inv.fr (I:Inv X pins σ H s):∃ m,Fr X.base X.env.locals s.heap m :=
 let ⟨m,hn,_⟩:=I.loc
 ⟨m,hn,I.bk,RP I.ok.bsz I.ok.above⟩
theorem Inv.lt (I:Inv X pins σ H s):X.env.locals < s.heap.objs.size:=let ⟨_,hn,_⟩:=I.loc; hn.lt
theorem Inv.sz (I:Inv X pins σ H s):X.s₀.heap.objs.size<=s.heap.objs.size:=RP I.ok.above (Vn I.lt)
theorem Inv.QD (I:Inv X pins σ H s) {a:Addr} (h:s.heap.objs.size<=a):a ∉ X.fs:=fun hb=>by
 obtain⟨_,o,ho,_⟩:=I.ok.rH.mem hb
 exact absurd (Rm (Ro ho) (RP I.sz h)) (Sx _)
theorem Inv.cne (I:Inv X pins σ H s):∀ x c,X.env.cells.lookup x=some c->c≠X.env.locals:=fun x c e z=>by
 obtain⟨v,o,ho,hd⟩:=I.cell x c e
 obtain⟨m,⟨o',es,ep,ho',hd',_⟩,_⟩:=I.loc
 rw[z,ho'] at ho; cases ho; rw[hd'] at hd; cases hd
theorem Inv.rH (I:Inv X pins σ H s):s.heap.FunFrames X.base X.outer:=by
 have all:∀ (l:List WQ),(∀ b∈frs l,b∈X.fs)->X.s₀.heap.FunFrames X.base l->s.heap.FunFrames X.base l:=by
  intro l
  induction l with
  | nil=>intro _ _; trivial
  | cons env r ih =>
   intro hs hl
   obtain⟨hk,⟨L,o,hf,hn,ho,hd⟩,hr⟩:=hl
   have hL:L∈X.fs:=hs L (by unfold frs; rw[Wh,hf]; exact Rc)
   obtain⟨sl,e⟩:=I.base.slot L o ho (I.ok.frf L hL) hL fun z=>I.ok.exfs L z hL
   exact⟨hk,⟨L,_,hf,hn,e,hd⟩,ih (fun b hb=>hs b (by unfold frs; rw[Wh,hf]; exact Ri _ hb)) hr⟩
 exact all X.outer (fun _ hb=>hb) I.ok.rH
theorem Inv.stack (I:Inv X pins σ H s):s.heap.FunFrames X.base X.stack:=by
 rcases I.ok.stk with e | ⟨e,hf⟩
 ·rw[e]; exact I.rH
 ·rw[e]
  obtain⟨m,hn,_⟩:=I.loc
  refine .cons (by rw[I.ok.kind]; decide) hf hn ?_ I.rH
  exact Heap.get?_none_of_le (RP I.ok.bsz I.ok.above)
theorem Inv.qm (I:Inv X pins σ H s):∀ b∈frs X.stack,b∈X.env.locals::X.fs:=fun b hb=>by
 rcases I.ok.stk with e | ⟨e,hf⟩
 ·rw[e] at hb; exact Ri _ hb
 ·rw[e] at hb
  unfold frs at hb
  rw[Wh,hf] at hb
  exact hb
theorem Inv.wR (I:Inv X pins σ H s):∀ b∈frs X.stack,H b=none:=fun b hb=>by
 rcases List.mem_cons.mp (I.qm b hb) with e | hb
 ·rw[e]; exact I.free
 ·obtain⟨_,o,ho,_⟩:=I.ok.rH.mem hb
  exact I.base.free b o ho (I.ok.frf b hb) fun z=>I.ok.exfs b z hb
theorem Inv.step {g':Array Zw} {t':Nat} {d':Drawn} {ch:List Addr} (I:Inv X pins σ H s)
  (hch:∀ b∈ch,(b∈X.ex∨X.s₀.heap.objs.size<=b)/\b≠X.env.locals/\(∀ x c,X.env.cells.lookup x=some c->c≠b)/\∀ p∈X.pn++pins,p.1≠b)
  (keep:∀ b o,b≠X.env.locals->b ∉ X.fs->b ∉ ch->s.heap.get? b=some o->H b=none->h'.get? b=some o)
  (slot:∀ b o,b≠X.env.locals->b∈X.fs->b ∉ ch->s.heap.get? b=some o->H b=none->∃ sl,h'.get? b=some { o with slots:=sl }) (free:∀ b o,b ∉ ch->s.heap.get? b=some o->H b=none->H' b=none)
  (there:∀ b o,b ∉ ch->s.heap.get? b=some o->∃ o',h'.get? b=some o')
  (tups:∀ b xs,H b=some (.tup xs)->H' b=some (.tup xs)) (frzs:∀ b o u,H b=some (.frz o u)->H' b=some (.frz o u)) (tbls:∀ b ps,H b=some (.tbl ps)->∃ more,H' b=some (.tbl (ps++more)))
  (ns:∀ m,s.heap.Ns X.env.locals m->h'.Ns X.env.locals m) (hok:HOk X.prog X.w H' h') (hg:Xx g') :
  Inv X pins σ H' { s with heap:=h',gens:=g',drawn:=d',toks:=t' }:=by
 have neL:∀ b o,X.s₀.heap.get? b=some o->b≠X.env.locals:=fun b o e=>RX (Rm (Ro e) I.ok.above)
 have neC:∀ b o,X.s₀.heap.get? b=some o->b ∉ X.ex->b ∉ ch:=fun b o e hx hb=>by
  rcases (hch b hb).1 with z | z
  ·exact hx z
  ·exact absurd (Rm (Ro e) z) (Sx _)
 have cellK:∀ x c,X.env.cells.lookup x=some c->∀ v,s.heap.IsCell c v->h'.IsCell c v:=fun x c e v ⟨o,ho,hd⟩=>by
  have nch:c ∉ ch:=fun z=>(hch c z).2.2.1 x c e rfl
  by_cases hc:c∈X.fs
  ·obtain⟨sl,q⟩:=slot c o (I.cne x c e) hc nch ho (I.freeC x c e)
   exact⟨_,q,hd⟩
  ·exact⟨o,keep c o (I.cne x c e) hc nch ho (I.freeC x c e),hd⟩
 refine⟨I.ok,I.os,hg,⟨fun b o e n hb hx=>?_,fun b o e n hb hx=>?_,fun b o e n hx=>?_,fun b o e hx=>?_,fun b xs e=>tups b xs (I.base.tups b xs e),fun b o xs e=>frzs b o xs (I.base.frzs b o xs e),fun b ps e=>?_⟩,?_,fun x c e=>?_,?_,fun x c e=>?_,fun p hp=>?_,hok,I.len⟩
 ·exact keep b o (neL b o e) hb (neC b o e hx) (I.base.keep b o e n hb hx) (I.base.free b o e n hx)
 ·obtain⟨sl,e1⟩:=I.base.slot b o e n hb hx
  obtain⟨sl',e2⟩:=slot b _ (neL b o e) hb (neC b o e hx) e1 (I.base.free b o e n hx)
  exact⟨sl',e2⟩
 ·obtain⟨o',e1⟩:=I.base.there b o e hx
  exact free b o' (neC b o e hx) e1 (I.base.free b o e n hx)
 ·obtain⟨o',e1⟩:=I.base.there b o e hx
  exact there b o' (neC b o e hx) e1
 ·obtain⟨m1,e1⟩:=I.base.tbls b ps e
  obtain⟨m2,e2⟩:=tbls b _ e1
  exact⟨m1++m2,by rw[e2,Wv]⟩
 ·obtain⟨m,hn,hl⟩:=I.loc
  refine⟨m,ns m hn,fun i x v e1 e2 e3=>?_⟩
  obtain⟨u,r,l⟩:=hl i x v e1 e2 e3
  refine⟨u,r,?_⟩
  rcases l with l | ⟨k,c,e,z⟩
  ·exact .inl l
  ·exact .inr ⟨k,c,e,cellK x c e _ z⟩
 ·obtain⟨v,z⟩:=I.cell x c e
  exact⟨v,cellK x c e v z⟩
 ·obtain⟨m,⟨o,_,_,ho,_⟩,_⟩:=I.loc
  exact free _ o (fun z=>(hch _ z).2.1 rfl) ho I.free
 ·obtain⟨v,o,ho,hd⟩:=I.cell x c e
  exact free c o (fun z=>(hch c z).2.2.1 x c e rfl) ho (I.freeC x c e)
 ·obtain⟨e,n,ne,nf,d⟩:=I.pin p hp
  have nch:p.1 ∉ ch:=fun z=>(hch p.1 z).2.2.2 p hp rfl
  exact⟨keep p.1 p.2 ne nf nch e n,free p.1 p.2 nch e n,ne,nf,d⟩
theorem Inv.un {t':Nat} (I:Inv X pins σ H s) (u:Un X.fs [] H H' s.heap h') (hok:HOk X.prog X.w H' h'):Inv X pins σ H' { s with heap:=h',toks:=t' }:=by
 obtain⟨m,⟨o,es,ep,ho,r⟩,_⟩:=id I.loc
 obtain⟨sl,hL⟩:=u.any ho I.free (by simp)
 exact I.step (g':=s.gens) (d':=s.drawn) (ch:=[]) (fun _ z=>nomatch z) (fun b o _ hb _ e n=>u.keep b o e n hb (by simp)) (fun b o _ hb _ e n=>u.slot b o e n hb (by simp)) (fun b o _ e n=>u.free b o e n (by simp)) (fun b o _ e=>u.there b o e (by simp)) u.tups u.frzs u.tbls (fun m' hm=>by
  obtain⟨o',es',ep',ho',r'⟩:=hm
  rw[ho] at ho'; cases ho'
  exact⟨_,es',ep',hL,r'⟩) hok I.bare
theorem Inv.call {g':Array Zw} {t':Nat} {d':Drawn} {ch:List Addr} (I:Inv X pins σ H s) (u:Un (frs X.stack) ch H H' s.heap h') (hok:HOk X.prog X.w H' h') (hg:Xx g')
  (hch:∀ b∈ch,(b∈X.ex∨X.s₀.heap.objs.size<=b)/\b≠X.env.locals/\(∀ x c,X.env.cells.lookup x=some c->c≠b)/\∀ p∈X.pn++pins,p.1≠b) :
  Inv X pins σ H' { s with heap:=h',gens:=g',drawn:=d',toks:=t' }:=by
 obtain⟨m,⟨o,es,ep,ho,r⟩,_⟩:=id I.loc
 obtain⟨sl,hL⟩:=u.any ho I.free fun z=>(hch _ z).2.1 rfl
 exact I.step (ch:=ch) hch (fun b o hL hb hc e n=>u.keep b o e n (fun z=>(List.mem_cons.mp (I.qm b z)).elim hL hb) hc) (fun b o _ _ hc e n=>u.any e n hc) (fun b o hc e n=>u.free b o e n hc) (fun b o hc e=>u.there b o e hc) u.tups u.frzs u.tbls (fun m' hm=>by
  obtain⟨o',es',ep',ho',r'⟩:=hm
  rw[ho] at ho'; cases ho'
  exact⟨_,es',ep',hL,r'⟩) hok hg
theorem Inv.turned {t':Nat} {it:Addr} (I:Inv X pins σ H s) (k:∀ b o,b≠it->s.heap.get? b=some o->h'.get? b=some o) (hn:H it=none) (hL:it≠X.env.locals)
  (h1:it∈X.ex∨X.s₀.heap.objs.size<=it) (h2:∀ x c,X.env.cells.lookup x=some c->c≠it) (h3:∀ p∈X.pn++pins,p.1≠it):Inv X pins σ H { s with heap:=h',toks:=t' }:=by
 have nit:∀ b u,H b=some u->b≠it:=fun b u e z=>by rw[z,hn] at e; cases e
 refine I.step (g':=s.gens) (d':=s.drawn) (ch:=[it]) (fun b hb=>?_) (fun b o _ _ hc e _=>k b o (fun z=>hc (by simp [z])) e) (fun b o _ _ hc e _=>⟨o.slots,k b o (fun z=>hc (by simp [z])) e⟩) (fun _ _ _ _ n=>n)
  (fun b o hc e=>⟨o,k b o (fun z=>hc (by simp [z])) e⟩) (fun _ _ e=>e) (fun _ _ _ e=>e) (fun b ps e=>⟨#[],by rw[e]; simp⟩) (fun m hm=>?_) (fun b u e=>?_) I.bare
 ·have e:b=it:=by simpa using hb
  subst e
  exact⟨h1,hL,h2,h3⟩
 ·obtain⟨o,es,ep,ho,r⟩:=hm
  exact⟨o,es,ep,k _ o (Tw hL) ho,r⟩
 ·refine (I.hok b u e).stay (fun c v hc q=>k c v ?_ q) (fun _ q=>q) fun _ _ q=>q
  rcases hc with z | z
  ·rw[z]; exact nit b u e
  ·exact nit c _ z
theorem Inv.tok (I:Inv X pins σ H s) (t:Nat):Inv X pins σ H { s with toks:=t }:=I.un (h':=s.heap) (t':=t) Un.refl I.hok
theorem Inv.kept {t':Nat} (I:Inv X pins σ H s) (k:∀ b u,s.heap.get? b=some u->h'.get? b=some u):Inv X pins σ H { s with heap:=h',toks:=t' }:=I.un (Un.kept k) (I.hok.kept k)
theorem Inv.laid {a:Addr} {o:HO} {t':Nat} (I:Inv X pins σ H s) (k:∀ b u,s.heap.get? b=some u->h'.get? b=some u) (hp:s.heap.objs.size<=a) (new:fV X.prog X.w (upd H a o) h' a o) :
  Inv X pins σ (upd H a o) { s with heap:=h',toks:=t' }:=I.un (Un.laid k hp (I.hok.fresh hp)) (I.hok.laid k hp new)
theorem Inv.write {x e:Addr} {o:HO} {t':Nat} (I:Inv X pins σ H s) (mu:Mut (H x)) (he:e=x∨H e=some (.own x)) (k:∀ b u,b≠e->s.heap.get? b=some u->h'.get? b=some u) (heo:∃ u,h'.get? e=some u)
  (new:fV X.prog X.w (upd H x o) h' x o):Inv X pins σ (upd H x o) { s with heap:=h',toks:=t' }:=I.un (Un.write mu he k heo) (I.hok.write mu he k heo new)
theorem Inv.Dy {pins':List (Addr × U3)} (I:Inv X pins σ H s) (h:∀ p∈pins',s.heap.get? p.1=some p.2/\H p.1=none/\p.1≠X.env.locals/\p.1 ∉ X.fs/\∀ v,p.2.data≠.cell v):Inv X pins' σ H s :=
 ⟨I.ok,I.os,I.bare,I.base,I.loc,I.cell,I.free,I.freeC,fun p hp=>(List.mem_append.mp hp).elim (fun z=>I.pin p (Vp _ z)) (h p),I.hok,I.len⟩
theorem zm {N:List Str} (hN:N.Nodup) {i j:Nat} {x:Str} (a:N[i]? = some x) (b:N[j]? = some x):i=j:=by
 obtain⟨h1,e1⟩:=List.getElem?_eq_some_iff.mp a
 obtain⟨h2,e2⟩:=List.getElem?_eq_some_iff.mp b
 exact (List.getElem_inj hN).mp (e1.trans e2.symm)
theorem wD {M:ZW} {A:Sh} {E:Value->Ra->Prop} {i:Nat} {x:Str} {v:V} {u:Value} {Q:Unit->Ra->Prop} (I:Inv X pins σ H s) (hN:X.N.Nodup) (hi:X.N[i]? = some x) (hx:Loc X.env.scope x) (r:RelV v u)
  (h:∀ s',Inv X pins (σ.set i (some v)) H s'->(∃ a,Vy a s.heap s'.heap/\(a=X.env.locals∨X.env.cells.lookup x=some a))->Q () s') (hf:X.fn x=true∨X.env.scope.names.lookup x=some .local:=by first | exact .inl rfl | exact .inr rfl | assumption):Rt M A (storeName X.env x u) Q E s:=by
 obtain⟨m,hn,hl⟩:=id I.loc
 have hcls:(X.env.scope.kind == .class || (X.env.scope.kind == .module && X.env.locals != X.env.globals))=false:=by rw[I.ok.kind]; rfl
 have hiσ:i < σ.length:=by rw[I.len]; exact (List.getElem?_eq_some_iff.mp hi).1
 have cne:=I.cne
 have tracked:∀ {a:Addr} {h':Tf},(∃ o,s.heap.get? a=some o/\H a=none)->Vy a s.heap h'->HOk X.prog X.w H h':=fun {a h'} ha hs b ob e=>by
  obtain⟨_,_,hfree⟩:=ha
  refine (I.hok b ob e).stay (fun c w' hc q=>(hs.2 c ?_).trans q) (fun _ q=>q) fun _ _ q=>q
  rintro rfl
  rcases hc with rfl | hc
  ·rw[hfree] at e; cases e
  ·rw[hfree] at hc; cases hc
 rcases hx with hk | hk
 ·refine wpAny_storeName_local hk hn (fun h' hn' hs=>?_) hcls
  obtain⟨oL,_,_,hoL,_⟩:=id hn
  refine h _ ⟨I.ok,I.os,I.bare,⟨fun b o e n hb hx=>?_,fun b o e n hb hx=>?_,I.base.free,fun b o e hx=>?_,I.base.tups,I.base.frzs,I.base.tbls⟩,⟨_,hn',fun j y v' e1 e2 e3=>?_⟩,fun y c e=>?_,I.free,I.freeC,fun p hp=>?_,tracked ⟨oL,hoL,I.free⟩ hs,by simpa using I.len⟩ ⟨_,hs,.inl rfl⟩
  ·exact (hs.2 b (RX (Rm (Ro e) I.ok.above))).trans (I.base.keep b o e n hb hx)
  ·obtain⟨sl,e1⟩:=I.base.slot b o e n hb hx
   exact⟨sl,(hs.2 b (RX (Rm (Ro e) I.ok.above))).trans e1⟩
  ·obtain⟨o',e1⟩:=I.base.there b o e hx
   exact⟨o',(hs.2 b (RX (Rm (Ro e) I.ok.above))).trans e1⟩
  ·by_cases hj:j=i
   ·subst hj
    rw[hi] at e1; cases e1
    rw[Yd hiσ] at e2
    cases e2
    exact⟨u,r,.inl ⟨hk,by simp⟩⟩
   ·rw[List.getElem?_set_ne (Tw hj)] at e2
    obtain⟨u',r',q⟩:=hl j y v' e1 e2 e3
    refine⟨u',r',?_⟩
    rcases q with⟨k,e⟩ | ⟨k,c,e,z⟩
    ·refine .inl ⟨k,?_⟩
     have:y≠x:=fun e=>hj (zm hN e1 (e▸hi))
     simp [this,e]
    ·exact .inr ⟨k,c,e,z.sameBut hs (cne y c e)⟩
  ·obtain⟨w',z⟩:=I.cell y c e
   exact⟨w',z.sameBut hs (cne y c e)⟩
  ·obtain⟨e,n,ne,nf,d⟩:=I.pin p hp
   exact⟨(hs.2 p.1 ne).trans e,n,ne,nf,d⟩
 ·have hfn:X.fn x=true:=by
   rcases hf with z | z
   ·exact z
   ·rw[z] at hk; cases hk
  obtain⟨c,hc⟩:=I.ok.has x (.inl hk)
  obtain⟨w',z⟩:=I.cell x c hc
  refine wpAny_storeName_cell I.ok.kind hk hc z (fun h' hc' hs=>?_)
  obtain⟨oc,hoc,hocd⟩:=id z
  refine h { s with heap:=h' } ⟨I.ok,I.os,I.bare,⟨fun b o e n hb hx=>?_,fun b o e n hb hx=>?_,I.base.free,fun b o e hx=>?_,I.base.tups,I.base.frzs,I.base.tbls⟩,⟨m,hn.sameBut hs (Tw (cne x c hc)),fun j y v' e1 e2 e3=>?_⟩,fun y c' e=>?_,I.free,I.freeC,fun p hp=>?_,tracked ⟨oc,hoc,I.freeC x c hc⟩ hs,by simpa using I.len⟩ ⟨c,hs,.inr hc⟩
  ·exact (hs.2 b (RX (Rm (Ro e) (I.ok.cab x c hfn hc)))).trans (I.base.keep b o e n hb hx)
  ·obtain⟨sl,e1⟩:=I.base.slot b o e n hb hx
   exact⟨sl,(hs.2 b (RX (Rm (Ro e) (I.ok.cab x c hfn hc)))).trans e1⟩
  ·obtain⟨o',e1⟩:=I.base.there b o e hx
   exact⟨o',(hs.2 b (RX (Rm (Ro e) (I.ok.cab x c hfn hc)))).trans e1⟩
  ·by_cases hj:j=i
   ·subst hj
    rw[hi] at e1; cases e1
    rw[Yd hiσ] at e2
    cases e2
    exact⟨u,r,.inr ⟨.inl hk,c,hc,hc'⟩⟩
   ·rw[List.getElem?_set_ne (Tw hj)] at e2
    obtain⟨u',r',q⟩:=hl j y v' e1 e2 e3
    refine⟨u',r',?_⟩
    rcases q with q | ⟨k,c',e,z'⟩
    ·exact .inl q
    ·refine .inr ⟨k,c',e,z'.sameBut hs ?_⟩
     rintro rfl
     exact hj (zm hN e1 (I.ok.inj _ _ _ e hc▸hi))
  ·by_cases hcc:c'=c
   ·subst hcc; exact⟨_,hc'⟩
   ·obtain⟨w2,z2⟩:=I.cell y c' e
    exact⟨w2,z2.sameBut hs hcc⟩
  ·obtain⟨e,n,ne,nf,d⟩:=I.pin p hp
   refine⟨(hs.2 p.1 ?_).trans e,n,ne,nf,d⟩
   intro q
   rw[q,hoc] at e
   have q':oc=p.2:=RQ e
   exact d w' (by rw[← q']; exact hocd)
theorem pC {M:ZW} {A:Sh} {E:Value->Ra->Prop} {i:Nat} {x:Str} {v:V} {u:Value} {Q:Unit->Ra->Prop} (I:Inv X pins σ H s) (hN:X.N.Nodup) (hi:X.N[i]? = some x) (hx:Loc X.env.scope x) (r:RelV v u)
  (h:∀ s',Inv X pins (σ.set i (some v)) H s'->Q () s') (hf:X.fn x=true∨X.env.scope.names.lookup x=some .local:=by first | exact .inl rfl | exact .inr rfl | assumption):Rt M A (storeName X.env x u) Q E s :=
 wD I hN hi hx r (fun s' I' _=>h s' I') hf
theorem Inv.call' {s':Ra} {ch:List Addr} (I:Inv X pins σ H s) (ho:s'.os=s.os) (u:Un (frs X.stack) ch H H' s.heap s'.heap) (hok:HOk X.prog X.w H' s'.heap) (hg:Xx s'.gens)
  (hch:∀ b∈ch,(b∈X.ex∨X.s₀.heap.objs.size<=b)/\b≠X.env.locals/\(∀ x c,X.env.cells.lookup x=some c->c≠b)/\∀ p∈X.pn++pins,p.1≠b):Inv X pins σ H' s':=by
 obtain⟨h',g',d',t',o'⟩:=s'
 have e:o'=s.os:=ho
 subst e
 exact I.call (g':=g') (t':=t') (d':=d') u hok hg hch
end
abbrev XK:=Value->Option Addr->Hp->Prop
abbrev St:=List (Option V)
abbrev VK:=V->Hp->Prop
abbrev TE:=St->Hp->VK->Prop
abbrev TT:=St->Hp->(Bool->Hp->Prop)->Prop
abbrev TA:=St->Hp->(List V->Hp->Prop)->Prop
structure Ends where
 nx:St->Hp->Prop
 rt:VK
 bk:St->Hp->Prop:=fun _ _=>False
 ct:St->Hp->Prop:=fun _ _=>False
abbrev TS:=Ends->St->Hp->Prop
def EP (X:Cx) (pins:List (Addr × U3)) (σ:St) (Q:VK) (u:Value) (s':Ra):Prop:=∃ v H',Inv X pins σ H' s'/\RelV v u/\Q v H'
def TP (X:Cx) (pins:List (Addr × U3)) (σ:St) (Q:Bool->Hp->Prop) (b:Bool) (s':Ra):Prop:=∃ H',Inv X pins σ H' s'/\Q b H'
def AP (X:Cx) (pins:List (Addr × U3)) (σ:St) (Q:List V->Hp->Prop) (us:List Value) (s':Ra):Prop:=∃ vs H',Inv X pins σ H' s'/\Vals vs us/\Q vs H'
def SP (X:Cx) (pins:List (Addr × U3)) (D:Ends) (f:Flow) (s':Ra):Prop :=
 match f with
 | .next=>∃ σ' H',Inv X pins σ' H' s'/\D.nx σ' H'
 | .brk=>∃ σ' H',Inv X pins σ' H' s'/\D.bk σ' H'
 | .cont=>∃ σ' H',Inv X pins σ' H' s'/\D.ct σ' H'
 | .ret u=>∃ v σ' H',Inv X pins σ' H' s'/\RelV v u/\D.rt v H'
def PE (X:Cx) (e:Expr) (t:TE):Prop :=
 ∀ (pins:List (Addr × U3)) (s:Ra) (σ:St) (H:Hp) (Q:VK),Inv X pins σ H s->t σ H Q->Rt (Ru X.prog X.w) X.A (UG e X.env) (EP X pins σ Q) X.xe s
def PT (X:Cx) (e:Expr) (t:TT):Prop :=
 ∀ (pins:List (Addr × U3)) (s:Ra) (σ:St) (H:Hp) (Q:Bool->Hp->Prop),Inv X pins σ H s->t σ H Q->Rt (Ru X.prog X.w) X.A (isTrue e X.env (UG e X.env)) (TP X pins σ Q) X.xe s
def PW (X:Cx) (e:Expr) (t:TT):Prop :=
 ∀ (whole:Sem Value) (pins:List (Addr × U3)) (s:Ra) (σ:St) (H:Hp) (Q:Bool->Hp->Prop),Inv X pins σ H s->t σ H Q->Rt (Ru X.prog X.w) X.A (isTrue e X.env whole) (TP X pins σ Q) X.xe s
theorem PW.pt {X:Cx} {e:Expr} {t:TT} (h:PW X e t):PT X e t:=h _
def PA (X:Cx) (es:List Expr) (t:TA):Prop :=
 ∀ (pos:Wi) (pins:List (Addr × U3)) (s:Ra) (σ:St) (H:Hp) (Q:List V->Hp->Prop),Inv X pins σ H s->t σ H Q->Rt (Ru X.prog X.w) X.A (spliced (We pos (R9 es X.env))) (AP X pins σ Q) X.xe s
def PS (X:Cx) (st:Stmt) (t:TS):Prop :=
 ∀ (pins:List (Addr × U3)) (s:Ra) (σ:St) (H:Hp) (D:Ends),Inv X pins σ H s->t D σ H->Rt (Ru X.prog X.w) X.A (exec st X.env) (SP X pins D) X.xe s
def PSs (X:Cx) (st:List Stmt) (t:TS):Prop :=
 ∀ (pins:List (Addr × U3)) (s:Ra) (σ:St) (H:Hp) (D:Ends),Inv X pins σ H s->t D σ H->Rt (Ru X.prog X.w) X.A (execs st X.env) (SP X pins D) X.xe s
theorem thn {α:Type} {t:Sem α} {Q Q':α->Ra->Prop} {M:ZW} {A:Sh} {E:Value->Ra->Prop} {s:Ra} (h:Rt M A t Q E s) (hQ:∀ a s,Q a s->Q' a s):Rt M A t Q' E s:=Su h hQ fun _ _ x=>x
end L2
namespace L2
open PySem PySem.Spec PyProof.Rows
section
variable {X:Cx}
def Ai (i:Nat):TE:=fun σ H Q=>∃ v,σ[i]? = some (some v)/\Q v H
def tC (v:V):TE:=fun _ H Q=>Q v H
theorem HS {i:Nat} {x:Str} {pos:Wi} (hN:X.N[i]? = some x) (hv:Vis X.env.scope x) (hd:(x == ("__debug__" : Str))=false:=by decide) (hcd:(x == ("__classdict__" : Str))=false:=by decide):PE X (.Name x pos) (Ai i):=by
 intro pins s σ H Q I h
 obtain⟨v,e,h⟩:=h
 obtain⟨m,hn,hl⟩:=I.loc
 obtain⟨u,r,l⟩:=hl i x v hN e hv
 have fin:EP X pins σ Q u s:=⟨v,H,I,r,h⟩
 rcases l with⟨hk,hm⟩ | ⟨hk,c,hc,hcell⟩
 ·exact wpAny_Name (wpAny_loadName_local I.ok.kind hk hn hm fin) hd
 ·rcases hk with hk | hk
  ·exact wpAny_Name (wpAny_loadName_cell I.ok.kind hk hc hcell fin) hd
  ·exact wpAny_Name (wpAny_loadName_free I.ok.kind hk hc hcell fin hcd) hd
theorem aq {i j pos}:PE X (.Constant (.int i) j pos) (tC (.int i)):=fun _ _ _ H _ I h=>wpAny_Constant_int ⟨.int i,H,I.tok _,⟨_,rfl⟩,h⟩
theorem lr {b j pos}:PE X (.Constant (.bool b) j pos) (tC (.bl b)):=fun _ _ _ H _ I h=>Constant_bool ⟨.bl b,H,I,rfl,h⟩
theorem gK {j pos}:PE X (.Constant .none j pos) (tC .non):=fun _ _ _ H _ I h=>Constant_none ⟨.non,H,I,rfl,h⟩
theorem aC {x j pos}:PE X (.Constant (.str x) j pos) (tC (.str x)):=fun _ _ _ H _ I h=>Calls.Constant_str ⟨.str x,H,I.tok _,⟨_,rfl⟩,h⟩
def Gl (X:Cx) (x:Str):Prop:=X.env.kindOf x=some .globalImplicit
theorem m7 {E:Value->Ra->Prop} {pins:List (Addr × U3)} {s:Ra} {σ:St} {H:Hp} {x:Str} {u:Value} {pos:Wi} {Q:Value->Ra->Prop} (I:Inv X pins σ H s) (hg:Gl X x) (hm:X.mg x=some u) (h:Q u s)
  (hd:(x == ("__debug__" : Str))=false:=by decide):Rt (Ru X.prog X.w) X.A (UG (.Name x pos) X.env) Q E s :=
 Calls.Name_function_global I.ok.kind hg (Calls.loadGlobal_global (by rw[I.ok.glob]; exact I.mod.glob.keeps I.bk) hm h) hd
theorem lW {E:Value->Ra->Prop} {pins:List (Addr × U3)} {s:Ra} {σ:St} {H:Hp} {x:Str} {u:Value} {pos:Wi} {Q:Value->Ra->Prop} (I:Inv X pins σ H s) (hg:Gl X x) (hm:X.mg x=none) (hv:Tj x=some u) (h:Q u s)
  (hn:x≠"__name__":=by decide) (hd:(x == ("__debug__" : Str))=false:=by decide):Rt (Ru X.prog X.w) X.A (UG (.Name x pos) X.env) Q E s:=by
 obtain⟨mb,h1,h2⟩:=I.mod.blt
 exact Calls.Name_function_global I.ok.kind hg (Calls.loadGlobal_builtin (by rw[I.ok.glob]; exact I.mod.glob.keeps I.bk) hm (by rw[I.ok.blt]; exact h1.keeps I.bk) ((h2 x hn).trans hv) h) hd
theorem xW {x:Str} {v:V} {u:Value} {pos:Wi} (hg:Gl X x) (hm:X.mg x=some u) (r:RelV v u) (hd:(x == ("__debug__" : Str))=false:=by decide):PE X (.Name x pos) (tC v) :=
 fun _ _ _ H _ I h=>m7 I hg hm ⟨v,H,I,r,h⟩ hd
theorem Ji {x:Str} {v:V} {u:Value} {pos:Wi} (hg:Gl X x) (hm:X.mg x=none) (hv:Tj x=some u) (r:RelV v u) (hn:x≠"__name__":=by decide) (hd:(x == ("__debug__" : Str))=false:=by decide):PE X (.Name x pos) (tC v) :=
 fun _ _ _ H _ I h=>lW I hg hm hv ⟨v,H,I,r,h⟩ hn hd
variable {a b:Expr} {ta tb:TE} {pos:Wi}
def PC (X:Cx) (op:ZZ) (a b:Expr) (t:TE):Prop :=
 ∀ (pins:List (Addr × U3)) (s:Ra) (σ:St) (H:Hp) (Q:VK),Inv X pins σ H s->t σ H Q →
  Rt (Ru X.prog X.w) X.A (UG a X.env) (fun v s₁=>Rt (Ru X.prog X.w) X.A (UG b X.env) (fun u s₂=>Rt (Ru X.prog X.w) X.A (T6 op v u) (EP X pins σ Q) X.xe s₂) X.xe s₁) X.xe s
theorem zu (b:Expr) {op:ZZ} (h:op≠.In) (h2:op≠.NotIn):VG op b=false:=by
 have e1:(op == CmpOp.In)=false:=by cases op <;> first | rfl | exact absurd rfl h
 have e2:(op == CmpOp.NotIn)=false:=by cases op <;> first | rfl | exact absurd rfl h2
 cases b <;> simp [VG,e1,e2]
def Q6 (ta:TE):TE:=fun σ H Q=>ta σ H fun x H1=>Q (.bl (decide (x = .non))) H1
def O4 (ta:TE):TE:=fun σ H Q=>ta σ H fun x H1=>Q (.bl (!decide (x = .non))) H1
theorem RelV.zG {x:V} {v:Value} (r:RelV x v):(v == SQ)=decide (x = .non):=by
 cases x with
 | non=>cases r; rfl
 | bl _=>cases r; rfl
 | int _=>obtain⟨t,rfl⟩:=r; rfl
 | str _=>obtain⟨t,rfl⟩:=r; rfl
 | byt _=>obtain⟨t,rfl⟩:=r; rfl
 | flt _=>obtain⟨t,rfl⟩:=r; rfl
 | ref _=>cases r; rfl
 | ty _=>cases r; rfl
theorem pR {j pos'} (ha:PE X a ta):PC X .Is a (.Constant .none j pos') (Q6 ta):=by
 intro pins s σ H Q I h
 refine thn (ha pins s σ H _ I h) fun v s1 ⟨x,H1,I1,r1,q1⟩=>?_
 exact Constant_none (is_none_gen ⟨.bl _,H1,I1,by rw[r1.zG]; rfl,q1⟩)
theorem KN {j pos'} (ha:PE X a ta):PC X .IsNot a (.Constant .none j pos') (O4 ta):=by
 intro pins s σ H Q I h
 refine thn (ha pins s σ H _ I h) fun v s1 ⟨x,H1,I1,r1,q1⟩=>?_
 exact Constant_none (isnot_none_gen ⟨.bl _,H1,I1,by rw[r1.zG]; rfl,q1⟩)
def tB (t:TE):TT:=fun σ H Q=>t σ H fun x H1=>∃ c,x = .bl c/\Q c H1
theorem Iw {op:ZZ} {t:TE} (h:PC X op a b t) (h1:VG op b=false:=by first | exact zu _ (by decide) (by decide) | rfl):PE X (.Compare a [op] [b] pos) t:=fun pins s σ H Q I hw=>wpAny_Compare1 (h pins s σ H Q I hw) h1
theorem sE {op:ZZ} {t:TE} (h:PC X op a b t) (h1:VG op b=false:=by first | exact zu _ (by decide) (by decide) | rfl):PT X (.Compare a [op] [b] pos) (tB t):=by
 intro pins s σ H Q I hw
 refine wpAny_isTrue_Compare1 (thn (h pins s σ H _ I hw) fun v s1 h1=>thn h1 fun u s2 h2=>thn h2 fun c s3 ⟨x,H1,I1,r1,q1⟩=>?_) h1
 obtain⟨d,rfl,q⟩:=q1
 cases r1
 exact Us ⟨H1,I1,q⟩
theorem dq {e:Expr} {t:TE} (h:PE X e t) (he:∀ whole,isTrue e X.env whole=(do let v ← whole; Xu e.pos; YF [v] (truthy v)):=by intro _; rfl):PT X e (tB t):=by
 intro pins s σ H Q I hw
 refine isTrue_plain (thn (h pins s σ H _ I hw) fun v s1 ⟨x,H1,I1,r1,q1⟩=>?_) (he _)
 obtain⟨d,rfl,q⟩:=q1
 cases r1
 exact Us ⟨H1,I1,q⟩
variable {tA tB':TT} {rest:List Expr}
def Qq (t u:TT):TT:=fun σ H Q=>t σ H fun c H1=>if c=true then u σ H1 Q else Q false H1
def tOr (t u:TT):TT:=fun σ H Q=>t σ H fun c H1=>if c=true then Q true H1 else u σ H1 Q
def QR (t:TT):TT:=fun σ H Q=>t σ H fun c H1=>Q (!c) H1
theorem ji (ha:PT X a tA):PW X (.BoolOp .And [a] pos) tA:=by
 intro wh pins s σ H Q I h
 refine isTrue_and (thn (ha pins s σ H Q I h) fun c s1 e=>?_)
 cases c with
 | true=>exact isTrue_and_nil e
 | false=>exact e
theorem dY (ha:PT X a tA):PW X (.BoolOp .Or [a] pos) tA:=by
 intro wh pins s σ H Q I h
 refine isTrue_or (thn (ha pins s σ H Q I h) fun c s1 e=>?_)
 cases c with
 | false=>exact isTrue_or_nil e
 | true=>exact e
theorem nU (ha:PT X a tA) (hb:PW X (.BoolOp .And (b::rest) pos) tB'):PW X (.BoolOp .And (a::b::rest) pos) (Qq tA tB'):=by
 intro wh pins s σ H Q I h
 refine isTrue_and (thn (ha pins s σ H _ I h) fun c s1 ⟨H1,I1,q1⟩=>?_)
 cases c with
 | true=>exact hb wh pins s1 σ H1 Q I1 q1
 | false=>exact⟨H1,I1,q1⟩
theorem dW (ha:PT X a tA) (hb:PW X (.BoolOp .Or (b::rest) pos) tB'):PW X (.BoolOp .Or (a::b::rest) pos) (tOr tA tB'):=by
 intro wh pins s σ H Q I h
 refine isTrue_or (thn (ha pins s σ H _ I h) fun c s1 ⟨H1,I1,q1⟩=>?_)
 cases c with
 | true=>exact⟨H1,I1,q1⟩
 | false=>exact hb wh pins s1 σ H1 Q I1 q1
theorem dH (ha:PT X a tA):PT X (.UnaryOp .Not a pos) (QR tA):=by
 intro pins s σ H Q I h
 exact isTrue_not (ha pins s σ H (fun c H1=>Q (!c) H1) I h)
def OJ (ta tb:TE):TE:=fun σ H Q=>ta σ H fun x H1=>∃ c,x = .bl c/\if c=true then tb σ H1 Q else Q (.bl false) H1
def O7 (ta:TE):TE:=fun σ H Q=>ta σ H fun x H1=>∃ c,x = .bl c/\Q (.bl (!c)) H1
theorem jW {op} {t:TE} (h:PE X a t):PE X (.BoolOp op [a] pos) t:=fun pins s σ H Q I hw=>BoolOp_one (h pins s σ H Q I hw)
theorem eV (ha:PE X a ta) (hb:PE X (.BoolOp .And (b::rest) pos) tb):PE X (.BoolOp .And (a::b::rest) pos) (OJ ta tb):=by
 intro pins s σ H Q I h
 refine BoolOp_and (thn (ha pins s σ H _ I h) fun v s1 ⟨x,H1,I1,r1,q1⟩=>?_)
 obtain⟨c,rfl,q1⟩:=q1
 cases r1
 refine Us ?_
 cases c with
 | true=>exact hb pins s1 σ H1 Q I1 q1
 | false=>exact⟨.bl false,H1,I1,rfl,q1⟩
theorem LC (ha:PE X a ta):PE X (.UnaryOp .Not a pos) (O7 ta):=by
 intro pins s σ H Q I h
 refine UnaryOp_ (thn (ha pins s σ H _ I h) fun v s1 ⟨x,H1,I1,r1,q1⟩=>?_)
 obtain⟨c,rfl,q1⟩:=q1
 cases r1
 exact not_of (Us ⟨.bl (!c),H1,I1,rfl,q1⟩)
def tIf (t:TT) (ta tb:TE):TE:=fun σ H Q=>t σ H fun c H1=>if c=true then ta σ H1 Q else tb σ H1 Q
theorem gR {c:Expr} (hc:PT X c tA) (ha:PE X a ta) (hb:PE X b tb):PE X (.IfExp c a b pos) (tIf tA ta tb):=by
 intro pins s σ H Q I h
 refine wpAny_IfExp (thn (hc pins s σ H _ I h) fun d s1 ⟨H1,I1,q1⟩=>?_)
 cases d with
 | true=>exact ha pins s1 σ H1 Q I1 q1
 | false=>exact hb pins s1 σ H1 Q I1 q1
end
end L2
namespace L2
open PySem PySem.Spec PyProof.Rows
def SqL (K:RD) (H:Hp) (a:Addr) (xs:List V):Prop :=
 Rd H a (.lst xs) ∨
  ∃ (o:U3) (its:Array Value) (n:Nat),K.lookup a=some o/\o.cls = .type "list"/\o.dict=none/\o.data = .seq its n/\its.size<=sizeLine/\Vals xs its.toList
def SqT (K:RD) (H:Hp) (a:Addr) (xs:List V):Prop :=
 Rd H a (.tup xs) ∨
  ∃ (o:U3) (its:Array Value) (n:Nat),K.lookup a=some o/\o.cls = .type "tuple"/\o.data = .seq its n/\its.size<=sizeLine/\Vals xs its.toList
def QX:Value->Option V
 | .none=>some .non
 | .bool b=>some (.bl b)
 | .int i _=>some (.int i)
 | .str x _=>some (.str x)
 | .bytes b _=>some (.byt b)
 | .float b _=>some (.flt b)
 | .ref a=>some (.ref a)
 | .type n=>some (.ty n)
 | _=>none
theorem RelV.abs {x:V} {u:Value} (r:RelV x u):QX u=some x:=by
 cases x with
 | non=>cases r; rfl
 | bl _=>cases r; rfl
 | int _=>obtain⟨t,rfl⟩:=r; rfl
 | str _=>obtain⟨t,rfl⟩:=r; rfl
 | byt _=>obtain⟨t,rfl⟩:=r; rfl
 | flt _=>obtain⟨t,rfl⟩:=r; rfl
 | ref _=>cases r; rfl
 | ty _=>cases r; rfl
theorem RelV.inj {x y:V} {u:Value} (r:RelV x u) (q:RelV y u):x=y:=RQ (r.abs.symm.trans q.abs)
theorem Vals.inj:∀ {xs ys:List V} {us:List Value},Vals xs us->Vals ys us->xs=ys
 | _,_,_,.nil,.nil=>rfl
 | _,_,_,.cons r t,.cons r' t'=>by rw[r.inj r',Vals.inj t t']
section
variable {X:Cx} {pins:List (Addr × U3)} {σ:St} {H:Hp} {s:Ra} {a:Addr} {xs ys:List V}
theorem SqL.of {K:RD} (h:H a=some (.lst xs)):SqL K H a xs:=.inl (.inl h)
theorem SqT.of {K:RD} (h:H a=some (.tup xs)):SqT K H a xs:=.inl (.inl h)
theorem Inv.list (I:Inv X pins σ H s) (h:SqL X.K H a xs):∃ its:List Value,Vals xs its/\PlainL s.heap a its.toArray/\xs.length<=sizeLine:=by
 rcases h with h | ⟨o,its,n,hk,hc,hd,hs,hz,r⟩
 ·obtain⟨z,its,n,r,e⟩:=h.ok I.hok
  exact⟨its,r,⟨_,n,e,rfl,rfl,rfl⟩,z⟩
 ·refine⟨its.toList,r,⟨o,n,I.kIn a o hk,hc,hd,by simpa using hs⟩,?_⟩
  have e:=r.length
  simp only[Tt] at e
  lia
theorem Inv.tuple (I:Inv X pins σ H s) (h:SqT X.K H a xs):∃ its:List Value,Vals xs its/\IsTup s.heap a its.toArray/\xs.length<=sizeLine:=by
 rcases h with h | ⟨o,its,n,hk,hc,hs,hz,r⟩
 ·obtain⟨z,its,r,p⟩:=h.ok I.hok
  exact⟨its,r,p,z⟩
 ·refine⟨its.toList,r,⟨o,I.kIn a o hk,hc,n,by simpa using hs⟩,?_⟩
  have e:=r.length
  simp only[Tt] at e
  lia
theorem Inv.yI (I:Inv X pins σ H s) (h:SqL X.K H a xs) (h':SqL X.K H a ys):xs=ys:=by
 obtain⟨its,r,⟨o,n,e,_,_,d⟩,_⟩:=I.list h
 obtain⟨its',r',⟨o',n',e',_,_,d'⟩,_⟩:=I.list h'
 rw[e] at e'; cases e'
 rw[d] at d'
 injection d' with d1 _
 have:its=its':=by simpa using congrArg Array.toList d1
 subst this
 exact r.inj r'
theorem Inv.CG (I:Inv X pins σ H s) (h:SqT X.K H a xs) (h':SqT X.K H a ys):xs=ys:=by
 obtain⟨its,r,⟨o,e,_,n,d⟩,_⟩:=I.tuple h
 obtain⟨its',r',⟨o',e',_,n',d'⟩,_⟩:=I.tuple h'
 rw[e] at e'; cases e'
 rw[d] at d'
 injection d' with d1 _
 have:its=its':=by simpa using congrArg Array.toList d1
 subst this
 exact r.inj r'
end
abbrev Cx.wish (X:Cx) (E:Value->Ra->Prop):Cx:={ X with xe:=E }
abbrev Cx.nox (X:Cx):Cx:=X.wish fun _ _=>False
theorem Cx.Ok.wish {X:Cx} (ok:X.Ok) (E:Value->Ra->Prop):(X.wish E).Ok :=
 ⟨ok.mod,ok.kind,ok.glob,ok.blt,ok.above,ok.inj,ok.has,ok.cab,ok.hd,ok.frames,ok.stk,ok.exf,ok.bs,ok.bsz,ok.noex,ok.exfs,ok.rH,ok.frf⟩
theorem Cx.Ok.jX {X:Cx} {E:Value->Ra->Prop} (ok:(X.wish E).Ok):X.Ok :=
 ⟨ok.mod,ok.kind,ok.glob,ok.blt,ok.above,ok.inj,ok.has,ok.cab,ok.hd,ok.frames,ok.stk,ok.exf,ok.bs,ok.bsz,ok.noex,ok.exfs,ok.rH,ok.frf⟩
section
variable {X:Cx} {pins:List (Addr × U3)} {σ:St} {H:Hp} {s:Ra} {E:Value->Ra->Prop}
theorem Inv.wish (I:Inv X pins σ H s) (E:Value->Ra->Prop):Inv (X.wish E) pins σ H s:=⟨I.ok.wish E,I.os,I.bare,I.base,I.loc,I.cell,I.free,I.freeC,I.pin,I.hok,I.len⟩
theorem Inv.jX (I:Inv (X.wish E) pins σ H s):Inv X pins σ H s:=⟨I.ok.jX,I.os,I.bare,I.base,I.loc,I.cell,I.free,I.freeC,I.pin,I.hok,I.len⟩
theorem SP.jX {D:Ends} {f:Flow} {s':Ra} (h:SP (X.wish E) pins D f s'):SP X pins D f s':=by
 cases f with
 | next=>obtain⟨σ',H',I,q⟩:=h; exact⟨σ',H',I.jX,q⟩
 | brk=>obtain⟨σ',H',I,q⟩:=h; exact⟨σ',H',I.jX,q⟩
 | cont=>obtain⟨σ',H',I,q⟩:=h; exact⟨σ',H',I.jX,q⟩
 | ret u=>obtain⟨v,σ',H',I,r,q⟩:=h; exact⟨v,σ',H',I.jX,r,q⟩
theorem PSs.nox {st:List Stmt} {t:TS} (h:PSs X.nox st t):PSs X st t:=fun pins s σ H D I hw =>
 Su (h pins s σ H D (I.wish _) hw) (fun _ _ q=>q.jX) fun _ _ z=>SX z
end
section
variable {X:Cx} {st:Stmt} {rest:List Stmt} {t u:TS} {e:Expr} {te:TE} {pos:Wi}
def Jt:TS:=fun D σ H=>D.nx σ H
def xf (t u:TS):TS:=fun D σ H=>t { D with nx:=u D } σ H
theorem aM:PSs X [] Jt:=fun _ _ σ H _ I h=>Yi ⟨σ,H,I,h⟩
theorem au (h1:PS X st t) (h2:PSs X rest u):PSs X (st::rest) (xf t u):=by
 intro pins s σ H D I h
 refine wpAny_execs_cons (thn (h1 pins s σ H { D with nx:=u D } I h) fun f s1 q=>?_)
 cases f with
 | next =>
  obtain⟨σ',H',I',q⟩:=q
  exact h2 pins s1 σ' H' D I' q
 | ret v=>exact q
 | brk=>exact q
 | cont=>exact q
theorem aA (h1:PS X st t):PSs X [st] t:=by
 intro pins s σ H D I h
 refine wpAny_execs_cons (thn (h1 pins s σ H D I h) fun f s1 q=>?_)
 cases f with
 | next=>exact Yi q
 | ret v=>exact q
 | brk=>exact q
 | cont=>exact q
theorem Inv.quiet {pins:List (Addr × U3)} {σ:St} {H:Hp} {s:Ra} (I:Inv X pins σ H s):interactive X.env=false:=by simp [interactive,I.ok.kind]
def PQ (te:TE):TS:=fun D σ H=>te σ H fun _ H1=>D.nx σ H1
theorem iG (he:PE X e te) (hs:ZD e none pos.line X.env=pure false:=by rfl):PS X (.Expr e pos) (PQ te):=by
 intro pins s σ H D I h
 exact wpAny_Expr_any (thn (he pins s σ H _ I h) fun v s1 ⟨x,H1,I1,r1,q1⟩=>⟨σ,H1,I1,q1⟩) I.quiet hs
def Ow (te:TE):TS:=fun D σ H=>te σ H D.rt
theorem aJ (he:PE X e te):PS X (.Return (some e) pos) (Ow te):=by
 intro pins s σ H D I h
 exact wpAny_Return_some (thn (he pins s σ H _ I h) fun v s1 ⟨x,H1,I1,r1,q1⟩=>⟨x,σ,H1,I1,r1,q1⟩)
def Bb (c:TT) (t u:TS):TS:=fun D σ H=>c σ H fun b H1=>if b=true then t D σ H1 else u D σ H1
theorem bu {c:Expr} {a b:List Stmt} {tc:TT} (hc:PT X c tc) (ha:PSs X a t) (hb:PSs X b u):PS X (.If c a b pos) (Bb tc t u):=by
 intro pins s σ H D I h
 refine wpAny_If (thn (hc pins s σ H _ I h) fun d s1 ⟨H1,I1,q1⟩=>?_)
 cases d with
 | true=>exact ha pins s1 σ H1 D I1 q1
 | false=>exact hb pins s1 σ H1 D I1 q1
end
abbrev TG:=V->St->Hp->(St->Hp->Prop)->Prop
abbrev TGs:=List V->St->Hp->(St->Hp->Prop)->Prop
def PG (X:Cx) (target:Expr) (t:TG):Prop :=
 ∀ (pins:List (Addr × U3)) (s:Ra) (σ:St) (H:Hp) (v:V) (u:Value) (Q:St->Hp->Prop),Inv X pins σ H s->RelV v u->t v σ H Q →
  Rt (Ru X.prog X.w) X.A (Xz target X.env u) (fun _ s'=>∃ σ' H',Inv X pins σ' H' s'/\Q σ' H') X.xe s
def PGs (X:Cx) (ts:List Expr) (t:TGs):Prop :=
 ∀ (pins:List (Addr × U3)) (s:Ra) (σ:St) (H:Hp) (vs:List V) (us:List Value) (Q:St->Hp->Prop),Inv X pins σ H s->Vals vs us->t vs σ H Q →
  Rt (Ru X.prog X.w) X.A (assignInOrder ((W6 ts X.env).map (·.2)) us) (fun _ s'=>∃ σ' H',Inv X pins σ' H' s'/\Q σ' H') X.xe s
abbrev Qa:=V->V->V->Hp->(Hp->Prop)->Prop
def Qi (X:Cx) (t:Qa):Prop :=
 ∀ (pins:List (Addr × U3)) (s:Ra) (σ:St) (H:Hp) (o i v:V) (ov iv u:Value) (Q:Hp->Prop),Inv X pins σ H s->RelV o ov->RelV i iv->RelV v u->t o i v H Q →
  Rt (Ru X.prog X.w) X.A (setItem ov iv u) (fun _ s'=>∃ H',Inv X pins σ H' s'/\Q H') X.xe s
abbrev TIp:=V->V->Hp->VK->Prop
def PIp (X:Cx) (op:Operator) (t:TIp):Prop :=
 ∀ (pins:List (Addr × U3)) (s:Ra) (σ:St) (H:Hp) (x y:V) (v u:Value) (Q:VK),Inv X pins σ H s->RelV x v->RelV y u->t x y H Q →
  Rt (Ru X.prog X.w) X.A (ZJ op v u) (EP X pins σ Q) X.xe s
section
variable {X:Cx} {pos:Wi}
def pI (i:Nat):TG:=fun v σ H Q=>Q (σ.set i (some v)) H
theorem aN {i:Nat} {x:Str} (hN:X.N.Nodup) (hi:X.N[i]? = some x) (hx:Loc X.env.scope x) (hf:X.fn x=true∨X.env.scope.names.lookup x=some .local:=by first | exact .inl rfl | exact .inr rfl | assumption):PG X (.Name x pos) (pI i):=by
 intro pins s σ H v u Q I r h
 exact wpAny_assign_Name (pC I hN hi hx r (fun s' I'=>⟨_,H,I',h⟩) hf)
def Qw:TGs:=fun vs σ H Q=>vs=[]/\Q σ H
def O2 (t:TG) (u:TGs):TGs:=fun vs σ H Q=>∃ v r,vs=v::r/\t v σ H fun σ' H'=>u r σ' H' Q
theorem fY:PGs X [] Qw:=by
 intro pins s σ H vs us Q I r h
 obtain⟨e,h⟩:=h
 subst e
 cases r
 exact assignInOrder_nil ⟨σ,H,I,h⟩
theorem bz {e:Expr} {es:List Expr} {t:TG} {u:TGs} (h1:PG X e t) (h2:PGs X es u)
  (hs:(W6 (e::es) X.env).map (·.2)=Xz e X.env::(W6 es X.env).map (·.2):=by rfl):PGs X (e::es) (O2 t u):=by
 intro pins s σ H vs us Q I r h
 obtain⟨v,vr,e1,h⟩:=h
 subst e1
 cases r with
 | cons r rr =>
  rw[hs]
  refine assignInOrder_cons (thn (h1 pins s σ H _ _ _ I r h) fun _ s1 ⟨σ1,H1,I1,q1⟩=>?_)
  exact h2 pins s1 σ1 H1 _ _ Q I1 rr q1
def Qh (K:RD) (n:Nat) (t:TGs):TG:=fun v σ H Q=>∃ a xs,v = .ref a/\SqT K H a xs/\xs.length=n/\t xs σ H Q
theorem M9 {es:List Expr} {k:Nat} {t:TGs} {n:Nat} (hc:X.calm=true) (h:PGs X es t)
  (hn:(W6 es X.env).length=n:=by rfl) (hst:(W6 es X.env).findIdx? (·.1)=none:=by rfl):PG X (.Tuple es k pos) (Qh X.K n t):=by
 intro pins s σ H v u Q I r hw
 obtain⟨a,xs,e1,hq,hl,hw⟩:=hw
 subst e1
 cases r
 obtain⟨its,rv,ht,hz⟩:=I.tuple hq
 refine assign_Tuple_tuple (I.ok.hd hc) ht (by simp [hn,← hl,rv.length]) hst fun h' hx=>?_
 have I1:Inv X pins σ H { s with heap:=h' }:=I.kept (t':=s.toks) fun b o e=>hx b o (RX (Ro e)) e
 exact h pins _ σ H xs _ Q I1 (by simpa using rv) hw
def QF (to ti:TE) (t:Qa):TG:=fun v σ H Q=>to σ H fun o H1=>ti σ H1 fun i H2=>t o i v H2 fun H3=>Q σ H3
theorem Mr {o i:Expr} {to ti:TE} {t:Qa} (ho:PE X o to) (hi:PE X i ti) (hs:Qi X t)
  (ha:∀ v,Xz (.Subscript o i pos) X.env v=(do
   let ov ← YF [v] (UG o X.env)
   let iv ← YF [v,ov] (UG i X.env)
   Xu pos
   YF [v,ov,iv] (setItem ov iv v)
   release [v,ov,iv] []):=by intro _; rfl):PG X (.Subscript o i pos) (QF to ti t):=by
 intro pins s σ H v u Q I r h
 rw[ha]
 refine Q9 (Ug (thn (ho pins s σ H _ I h) fun ov s1 ⟨x,H1,I1,r1,q1⟩=>?_))
 refine Q9 (Ug (thn (hi pins s1 σ H1 _ I1 q1) fun iv s2 ⟨y,H2,I2,r2,q2⟩=>?_))
 refine Q9 (UW (Q9 (Ug (thn (hs pins s2 σ H2 x y v ov iv u _ I2 r1 r2 r q2) fun _ s3 ⟨H3,I3,q3⟩=>?_))))
 exact wpAny_release ⟨σ,H3,I3,q3⟩
def Oq (te:TE) (g:TG):TS:=fun D σ H=>te σ H fun x H1=>g x σ H1 D.nx
theorem sO {tg e:Expr} {te:TE} {g:TG} (he:PE X e te) (hg:PG X tg g) (hs:swapsWithSole [tg] e pos.line X.env=pure false:=by rfl) (hw:swappedStores [tg] e X.env=pure none:=by rfl)
  (h1:(W6 [tg] X.env).map (·.2)=[Xz tg X.env]:=by rfl):PS X (.Assign [tg] e pos) (Oq te g):=by
 intro pins s σ H D I h
 refine wpAny_Assign_stores (thn (he pins s σ H _ I h) fun v s1 ⟨x,H1,I1,r1,q1⟩=>?_) hs hw
 rw[h1]
 exact thn (hg pins s1 σ H1 x v _ I1 r1 q1) fun _ s2 q=>q
theorem aU {i:Nat} {x:Str} {e:Expr} {te:TE} {pos':Wi} (hN:X.N.Nodup) (hi:X.N[i]? = some x) (hx:Loc X.env.scope x) (he:PE X e te) (hs:ZD e (some (.Name x pos')) pos.line X.env=pure false:=by rfl) (hf:X.fn x=true∨X.env.scope.names.lookup x=some .local:=by first | exact .inl rfl | exact .inr rfl | assumption) :
  PS X (.Assign [.Name x pos'] e pos) (Oq te (pI i)):=by
 intro pins s σ H D I h
 refine wpAny_Assign_Name (thn (he pins s σ H _ I h) fun v s1 ⟨y,H1,I1,r1,q1⟩=>?_) hs
 exact pC I1 hN hi hx r1 (fun s2 I2=>⟨_,H1,I2,q1⟩) hf
def QW (i:Nat) (te:TE) (ti:TIp):TS:=fun D σ H=>∃ x,σ[i]? = some (some x)/\te σ H fun y H1=>ti x y H1 fun z H2=>D.nx (σ.set i (some z)) H2
theorem Ib {i:Nat} {x:Str} {e:Expr} {te:TE} {op:Operator} {ti:TIp} {pos':Wi} (hN:X.N.Nodup) (hi:X.N[i]? = some x) (hx:Loc X.env.scope x) (he:PE X e te) (ho:PIp X op ti) (hf:X.fn x=true∨X.env.scope.names.lookup x=some .local:=by first | exact .inl rfl | exact .inr rfl | assumption) :
  PS X (.AugAssign (.Name x pos') op e pos) (QW i te ti):=by
 intro pins s σ H D I h
 obtain⟨v,e1,h⟩:=h
 obtain⟨m,hn,hl⟩:=I.loc
 have vis:Vis X.env.scope x:=by rcases hx with k | k; exact .inl k; exact .inr (.inl k)
 obtain⟨u,r,l⟩:=hl i x v hi e1 vis
 refine wpAny_AugAssign_Name ?_
 have go:Rt (Ru X.prog X.w) X.A (UG e X.env) (fun w s₂=>Rt (Ru X.prog X.w) X.A (ZJ op u w) (fun r s₃=>Rt (Ru X.prog X.w) X.A (storeName X.env x r) (fun _=>SP X pins D .next) X.xe s₃) X.xe s₂) X.xe s:=by
  refine thn (he pins s σ H _ I h) fun w s1 ⟨y,H1,I1,r1,q1⟩=>?_
  refine thn (ho pins s1 σ H1 v y u w _ I1 r r1 q1) fun z s2 ⟨zv,H2,I2,r2,q2⟩=>?_
  exact pC I2 hN hi hx r2 (fun s3 I3=>⟨_,H2,I3,q2⟩) hf
 rcases l with⟨hk,hm⟩ | ⟨hk,c,hc,hcell⟩
 ·exact wpAny_loadName_local I.ok.kind hk hn hm go
 ·rcases hk with hk | hk
  ·exact wpAny_loadName_cell I.ok.kind hk hc hcell go
  ·rcases hx with k | k
   ·have:X.env.scope.names.lookup x=some .free:=hk
    rw[k] at this; cases this
   ·have:X.env.scope.names.lookup x=some .free:=hk
    rw[k] at this; cases this
end
section
variable {X:Cx} {pos:Wi}
end
structure It where
 go:Nat->Hp->Prop
 yld:Nat->Hp->V->Hp->Prop
 stop:Nat->Hp->Prop
def sU (X:Cx) (pins:List (Addr × U3)) (H:Hp) (b:Addr):Prop :=
 H b=none/\b≠X.env.locals/\b ∉ X.fs/\(b∈X.ex∨X.s₀.heap.objs.size<=b)/\(∀ x c,X.env.cells.lookup x=some c->c≠b)/\∀ p∈X.pn++pins,p.1≠b
theorem Inv.J4 {X:Cx} {pins:List (Addr × U3)} {σ:St} {H H':Hp} {s:Ra} {b:Addr} (I:Inv X pins σ H s) (hb:s.heap.objs.size<=b) (hn:H' b=none):sU X pins H' b:=by
 refine⟨hn,Vx (Rm I.lt hb),I.QD hb,.inr (RP I.sz hb),fun x c e z=>?_,fun p hp z=>?_⟩
 ·obtain⟨v,q⟩:=I.cell x c e
  exact absurd (Rm q.lt (by rw[z]; exact hb)) (Sx _)
 ·exact absurd (Rm (Ro (I.pin p hp).1) (by rw[z]; exact hb)) (Sx _)
structure Turn (P:RV) (w:Sv) (K:RD) (tg:Expr) (J:It) (fp:List Addr) (it:Addr) (tn:Nat->Tf->Prop):Prop where
 mem:it∈fp
 obj:∀ i h,tn i h->∀ b∈fp,∃ o,h.get? b=some o/\∀ v,o.data≠.cell v
 keep:∀ i h h',tn i h->(∀ b∈fp,∀ o,h.get? b=some o->h'.get? b=some o)->tn i h'
 item:∀ (X:Cx),X.prog=P->X.w=w->X.K=K->X.calm=true->∀ (i:Nat) (pins:List (Addr × U3)) (s:Ra) (σ:St) (H:Hp) (E:Value->Ra->Prop),Inv X pins σ H s->(∀ b∈fp,sU X pins H b)->tn i s.heap->J.go i H →
  Rt (Ru P w) X.A (Xh (.ref it)) (fun r s1=>∃ u,r=some u ∧
   Rt (Ru P w) X.A (U8 tg (.ref it) u) (fun _ s2=>∃ x H',Inv X pins σ H' s2/\RelV x u/\J.yld i H x H'/\tn (i+1) s2.heap/\∀ b∈fp,H' b=none) E s1) E s
 done:∀ (X:Cx),X.prog=P->X.w=w->X.K=K->X.calm=true->∀ (i:Nat) (pins:List (Addr × U3)) (s:Ra) (σ:St) (H:Hp) (E:Value->Ra->Prop),Inv X pins σ H s->(∀ b∈fp,sU X pins H b)->tn i s.heap->J.stop i H →
  Rt (Ru P w) X.A (Xh (.ref it)) (fun r s1=>r=none/\Inv X pins σ H s1) E s
 self:∀ (A:Sh) (i:Nat) (s:Ra) (Q:Value->Ra->Prop) (E:Value->Ra->Prop),tn i s.heap->Q (.ref it) s->Rt (Ru P w) A (Y6 (.ref it)) Q E s
abbrev TI:=St->Hp->(It->Hp->Prop)->Prop
def PIE (X:Cx) (pins:List (Addr × U3)) (σ:St) (tg:Expr) (R:It->Hp->Prop) (itv:Value) (s2:Ra):Prop :=
 ∃ (it:Addr) (fp:List Addr) (tn:Nat->Tf->Prop) (J:It) (H':Hp),itv = .ref it/\Inv X pins σ H' s2/\Turn X.prog X.w X.K tg J fp it tn/\tn 0 s2.heap/\(∀ b∈fp,sU X pins H' b)/\R J H'
def PI (X:Cx) (tg iter:Expr) (wi:TI):Prop :=
 ∀ (pins:List (Addr × U3)) (s:Ra) (σ:St) (H:Hp) (R:It->Hp->Prop),Inv X pins σ H s->wi σ H R →
  Rt (Ru X.prog X.w) X.A (UG iter X.env) (fun v s1=>Rt (Ru X.prog X.w) X.A (Y6 v) (PIE X pins σ tg R) X.xe s1) X.xe s
theorem Gs {M : ZW} {A : Sh} {E : Value → Ra → Prop} {s : Ra} {tg : Expr} {it : Addr} {u : Value} {o : U3} {n : String} {vs : Array Value} {Q : Unit → Ra → Prop} (ho : s.heap.get? it = some o) (hc : o.cls = .type n) (hd : o.data = .fields vs)
    (hn : ["enumerate", "zip", "dict_itemiterator", "dict_reverseitemiterator", "odict_iterator", "itertools.zip_longest", "itertools.pairwise"].contains n = false) (hQ : Q () s) : Rt M A (U8 tg (.ref it) u) Q E s := by
  unfold U8
  cases tg <;> first
    | exact Rj hQ
    | (cases u <;> first
        | exact Rj hQ
        | (refine Q9 (wpAny_load ho ?_)
           rw [hc, hd]
           show Rt M A (if (["enumerate", "zip", "dict_itemiterator", "dict_reverseitemiterator", "odict_iterator", "itertools.zip_longest", "itertools.pairwise"].contains n && vs[0]? == some (Te _)) = true then _ else _) Q E s
           rw [if_neg (by intro h; rw [hn, TY] at h; cases h)]
           exact Rj hQ))
def Itl (K:RD) (a:Addr):It :=
 ⟨fun i H=>∃ xs x,SqL K H a xs/\xs[i]? = some x,fun i H x H'=>H'=H/\∀ xs,SqL K H a xs->xs[i]? = some x,fun i H=>∃ xs,SqL K H a xs/\xs.length<=i⟩
def Itt (K:RD) (a:Addr):It :=
 ⟨fun i H=>∃ xs x,SqT K H a xs/\xs[i]? = some x,fun i H x H'=>H'=H/\∀ xs,SqT K H a xs->xs[i]? = some x,fun i H=>∃ xs,SqT K H a xs/\xs.length<=i⟩
def Itr (lo:Int) (n:Nat):It:=⟨fun i _=>i < n,fun i H x H'=>H'=H/\x = .int (lo+i),fun i _=>n<=i⟩
theorem Bp {P:RV} {w:Sv} {K:RD} {tg:Expr} (a it:Addr):Turn P w K tg (Itl K a) [it] it (fun i h=>h.IsListIter it a i) where
 mem:=by simp
 obj:=fun i h st b hb=>by
  have e:b=it:=by simpa using hb
  subst e
  obtain⟨o,e,c,d⟩:=st
  exact⟨o,e,fun v z=>by rw[d] at z; cases z⟩
 keep:=fun i h h' st k=>st.at fun o e=>k it (by simp) o e
 item:=by
  intro X hP hw hK hc i pins s σ H E I hf st hg
  subst hP hw hK
  obtain⟨xs,x,hq,hx⟩:=hg
  obtain⟨its,rv,p,hz⟩:=I.list hq
  obtain⟨u,hu,ru⟩:=rv.get hx
  obtain⟨f0,f1,f2,f3,f4,f5⟩:=hf it (by simp)
  refine wpAny_pyNext_list_item st p.isList (x:=u) (by simpa using hu) fun h' st' sb=>?_
  have I1:Inv X pins σ H { s with heap:=h' }:=I.turned (t':=s.toks) (fun b o hb e=>(sb.2 b hb).trans e) f0 f1 f3 f4 f5
  obtain⟨o,e,c,d⟩:=id st'
  exact⟨u,rfl,Gs (s:={ s with heap:=h' }) e c d (by decide) ⟨x,H,I1,ru,⟨rfl,fun ys hy=>by rw[I.yI hy hq]; exact hx⟩,st',fun b hb=>(hf b hb).1⟩⟩
 done:=by
  intro X hP hw hK hc i pins s σ H E I hf st hg
  subst hP hw hK
  obtain⟨xs,hq,hx⟩:=hg
  obtain⟨its,rv,p,hz⟩:=I.list hq
  obtain⟨f0,f1,f2,f3,f4,f5⟩:=hf it (by simp)
  have hl:=rv.length
  exact wpAny_pyNext_list_end (I.ok.hd hc) st p.isList (by simp; lia) fun h' eb=>⟨rfl,I.turned (t':=s.toks) (fun b o hb e=>eb b o hb e) f0 f1 f3 f4 f5⟩
 self:=fun _ _ _ _ _ st h=>wpAny_pyIter_listiter st h
theorem zW {P:RV} {w:Sv} {K:RD} {tg:Expr} (a it:Addr):Turn P w K tg (Itt K a) [it] it (fun i h=>h.IsTupleIter it a i) where
 mem:=by simp
 obj:=fun i h st b hb=>by
  have e:b=it:=by simpa using hb
  subst e
  obtain⟨o,e,c,d⟩:=st
  exact⟨o,e,fun v z=>by rw[d] at z; cases z⟩
 keep:=fun i h h' st k=>st.at fun o e=>k it (by simp) o e
 item:=by
  intro X hP hw hK hc i pins s σ H E I hf st hg
  subst hP hw hK
  obtain⟨xs,x,hq,hx⟩:=hg
  obtain⟨its,rv,p,hz⟩:=I.tuple hq
  obtain⟨u,hu,ru⟩:=rv.get hx
  obtain⟨f0,f1,f2,f3,f4,f5⟩:=hf it (by simp)
  refine wpAny_pyNext_tuple_item st (show s.heap.IsTuple a its.toArray from p) (x:=u) (by simpa using hu) fun h' st' sb=>?_
  have I1:Inv X pins σ H { s with heap:=h' }:=I.turned (t':=s.toks) (fun b o hb e=>(sb.2 b hb).trans e) f0 f1 f3 f4 f5
  obtain⟨o,e,c,d⟩:=id st'
  exact⟨u,rfl,Gs (s:={ s with heap:=h' }) e c d (by decide) ⟨x,H,I1,ru,⟨rfl,fun ys hy=>by rw[I.CG hy hq]; exact hx⟩,st',fun b hb=>(hf b hb).1⟩⟩
 done:=by
  intro X hP hw hK hc i pins s σ H E I hf st hg
  subst hP hw hK
  obtain⟨xs,hq,hx⟩:=hg
  obtain⟨its,rv,p,hz⟩:=I.tuple hq
  obtain⟨f0,f1,f2,f3,f4,f5⟩:=hf it (by simp)
  have hl:=rv.length
  exact wpAny_pyNext_tuple_end (I.ok.hd hc) st (show s.heap.IsTuple a its.toArray from p) (by simp; lia) fun h' eb=>⟨rfl,I.turned (t':=s.toks) (fun b o hb e=>eb b o hb e) f0 f1 f3 f4 f5⟩
 self:=fun _ _ _ _ _ st h=>wpAny_pyIter_tupleiter st h
theorem z8 {P:RV} {w:Sv} {K:RD} {tg:Expr} (it:Addr) (lo:Int) (n:Nat):Turn P w K tg (Itr lo n) [it] it (fun i h=>IsRangeIter h it (lo+(i:Nat) * 1) ((n:Int) - (i:Nat)) 1) where
 mem:=by simp
 obj:=fun i h st b hb=>by
  have e:b=it:=by simpa using hb
  subst e
  exact⟨_,st,fun v z=>by
   have z':Data.fields _=Data.cell v:=z
   cases z'⟩
 keep:=fun i h h' st k=>k it (by simp) _ st
 item:=by
  intro X hP hw hK hc i pins s σ H E I hf st hg
  subst hP hw hK
  obtain⟨f0,f1,f2,f3,f4,f5⟩:=hf it (by simp)
  have W:=Walks.range (prog:=X.prog) (w:=X.w) (I.ok.hd hc) it lo 1 n
  refine W.item i s _ _ hg st fun v h' tk hv st' kk=>?_
  obtain⟨t,rfl⟩:=hv
  have I1:Inv X pins σ H { s with heap:=h',toks:=tk }:=I.turned (fun b o hb e=>kk b o (by simpa using hb) e) f0 f1 f3 f4 f5
  refine⟨_,rfl,Gs (s:={ s with heap:=h',toks:=tk }) (n:="range_iterator") st' rfl rfl (by decide) ⟨.int (lo+i),H,I1,⟨t,?_⟩,⟨rfl,rfl⟩,st',fun b hb=>(hf b hb).1⟩⟩
  rw[Int.mul_one]
 done:=by
  intro X hP hw hK hc i pins s σ H E I hf st hg
  subst hP hw hK
  obtain⟨f0,f1,f2,f3,f4,f5⟩:=hf it (by simp)
  exact wpAny_pyNext_range_end (I.ok.hd hc) st (by have:n<=i:=hg; lia) fun h' eb=>⟨rfl,I.turned (t':=s.toks) (fun b o hb e=>eb b o hb e) f0 f1 f3 f4 f5⟩
 self:=fun _ _ _ _ _ st h=>wpAny_pyIter_rangeiter st h
end L2
namespace L2
open PySem PySem.Spec PyProof.Rows
section
variable {X:Cx} {tg:Expr}
def JP (K:RD) (tl:TE):TI:=fun σ H R=>tl σ H fun x H1=>∃ a,x = .ref a/\(∃ xs,SqL K H1 a xs)/\R (Itl K a) H1
def Qy (K:RD) (tl:TE):TI:=fun σ H R=>tl σ H fun x H1=>∃ a,x = .ref a/\(∃ xs,SqT K H1 a xs)/\R (Itt K a) H1
theorem fD {l:Expr} {tl:TE} (hl:PE X l tl):PI X tg l (JP X.K tl):=by
 intro pins s σ H R I h
 refine thn (hl pins s σ H _ I h) fun v s1 ⟨x,H1,I1,r1,q1⟩=>?_
 obtain⟨a,e,⟨xs,hq⟩,q⟩:=q1
 subst e
 cases r1
 obtain⟨its,rv,p,hz⟩:=I1.list hq
 refine Zh p.isList ?_
 refine⟨s1.heap.objs.size,[s1.heap.objs.size],_,_,H1,rfl,I1.kept (t':=s1.toks) fun b o e=>Rb _ e,Bp a _,⟨_,RK _ rfl,rfl,rfl⟩,fun b hb=>?_,q⟩
 have e:b=s1.heap.objs.size:=by simpa using hb
 subst e
 exact I1.J4 (Rh _) (I1.hok.fresh (Rh _))
theorem iZ {l:Expr} {tl:TE} (hl:PE X l tl):PI X tg l (Qy X.K tl):=by
 intro pins s σ H R I h
 refine thn (hl pins s σ H _ I h) fun v s1 ⟨x,H1,I1,r1,q1⟩=>?_
 obtain⟨a,e,⟨xs,hq⟩,q⟩:=q1
 subst e
 cases r1
 obtain⟨its,rv,p,hz⟩:=I1.tuple hq
 refine wpAny_pyIter_tuple (show s1.heap.IsTuple a its.toArray from p) ?_
 refine⟨s1.heap.objs.size,[s1.heap.objs.size],_,_,H1,rfl,I1.kept (t':=s1.toks) fun b o e=>Rb _ e,zW a _,⟨_,RK _ rfl,rfl,rfl⟩,fun b hb=>?_,q⟩
 have e:b=s1.heap.objs.size:=by simpa using hb
 subst e
 exact I1.J4 (Rh _) (I1.hok.fresh (Rh _))
theorem GZ {pins:List (Addr × U3)} {σ:St} {H:Hp} {s:Ra} {R:It->Hp->Prop} {E:Value->Ra->Prop} {lo hi:Int} {t u v:ZK} {tk:Nat} (I:Inv X pins σ H s) (h1 : -(2 ^ 62)<=lo) (h2:lo < 2 ^ 62) (h3 : -(2 ^ 62)<=hi) (h4:hi < 2 ^ 62)
  (q:R (Itr lo (hi - lo).toNat) H):Rt (Ru X.prog X.w) X.A (Y6 (.ref s.heap.objs.size)) (PIE X pins σ tg R) E { s with heap:=s.heap.push { cls:=.type "range",data:=.fields #[.int lo t,.int hi u,.int 1 v] },toks:=tk }:=by
 refine wpAny_pyIter_range (IsRange.new ..) (small_one h1 h2 h3 h4) ?_
 have I1:Inv X pins σ H { s with heap:=s.heap.push { cls:=.type "range",data:=.fields #[.int lo t,.int hi u,.int 1 v] },toks:=tk }:=I.kept fun b o e=>Rb _ e
 refine⟨(s.heap.push { cls:=.type "range",data:=.fields #[.int lo t,.int hi u,.int 1 v] }).objs.size,[(s.heap.push { cls:=.type "range",data:=.fields #[.int lo t,.int hi u,.int 1 v] }).objs.size],_,_,H,rfl,
  I1.kept (t':=tk) fun b o e=>Rb _ e,z8 _ lo (hi - lo).toNat,?_,fun b hb=>?_,q⟩
 ·have e1:lo+((0:Nat):Int) * 1=lo:=by simp
  have e2:(((hi - lo).toNat:Nat):Int) - ((0:Nat):Int)=Builtin.Range.rangeSize lo hi 1:=by rw[rangeSize_one]; split <;> lia
  show IsRangeIter _ _ (lo+((0:Nat):Int) * 1) ((((hi - lo).toNat:Nat):Int) - ((0:Nat):Int)) 1
  rw[e1,e2]
  exact RK _ rfl
 ·have e:b=(s.heap.push { cls:=.type "range",data:=.fields #[.int lo t,.int hi u,.int 1 v] }).objs.size:=by simpa using hb
  subst e
  exact I1.J4 (Rh _) (I1.hok.fresh (Rh _))
def Pq (ta:TA):TI:=fun σ H R=>ta σ H fun vs H1=>∃ j:Int,vs=[.int j]/\-(2 ^ 62)<=j/\j < 2 ^ 62/\R (Itr 0 j.toNat) H1
theorem eU {a:Expr} {ta:TA} {p pos:Wi} (hg:Gl X "range") (hm:X.mg "range" = none) (ha:PA X [a] ta) (hs:R9 [a] X.env=[(false,UG a X.env)]:=by rfl):PI X tg (.Call (.Name "range" p) [a] [] pos) (Pq ta):=by
 intro pins s σ H R I h
 refine Call_ (lW I hg hm boot_range (Vc (thn (ha pos pins s σ H _ I h) fun us s1 ⟨vs,H1,I1,r1,q1⟩=>?_) hs rfl))
 obtain⟨j,e,q1,q2,q⟩:=q1
 subst e
 cases r1 with
 | cons r rr =>
  cases rr
  obtain⟨t,rfl⟩:=r
  exact call_range_1 (GZ I1 (by lia) (by lia) q1 q2 (by simpa using q))
def QZ (wi:TI) (g:TG) (tb:TS):TS:=fun D σ H=>wi σ H fun J H1=>∃ W:Nat->Nat->St->Hp->Prop,(∃ m,W 0 m σ H1)/\∀ i m σ H,W i m σ H →
 (J.stop i H/\D.nx σ H)∨(J.go i H/\∃ N:St->Hp->Prop,(∀ σ' H',N σ' H'->∃ m',m' < m/\W (i+1) m' σ' H')/\∀ x H',J.yld i H x H'->g x σ H' fun σ2 H2=>tb { D with nx:=N,ct:=N,bk:=D.nx } σ2 H2)
def lK (fp:List Addr) (h:Tf):List (Addr × U3):=fp.filterMap fun b=>(h.get? b).map fun o=>(b,o)
theorem cN {fp:List Addr} {h:Tf} {b:Addr} {o:U3} (hb:b∈fp) (e:h.get? b=some o):(b,o)∈lK fp h:=List.mem_filterMap.mpr ⟨b,hb,by rw[e]; rfl⟩
theorem Bw {fp:List Addr} {h:Tf} {p:Addr × U3} (hp:p∈lK fp h):p.1∈fp/\h.get? p.1=some p.2:=by
 obtain⟨b,hb,e⟩:=List.mem_filterMap.mp hp
 cases q:h.get? b with
 | none=>rw[q] at e; cases e
 | some o =>
  rw[q] at e
  have e':(b,o)=p:=RQ e
  subst e'
  exact⟨hb,q⟩
theorem Inv.pinned {pins:List (Addr × U3)} {σ:St} {H:Hp} {s:Ra} {fp:List Addr} (I:Inv X pins σ H s) (hf:∀ b∈fp,sU X pins H b) (ho:∀ b∈fp,∃ o,s.heap.get? b=some o/\∀ v,o.data≠.cell v):Inv X (pins++lK fp s.heap) σ H s :=
 I.Dy fun p hp=>(List.mem_append.mp hp).elim (fun z=>I.pin p (RC _ z)) fun z=>by
  obtain⟨hb,e⟩:=Bw z
  obtain⟨f0,f1,f2,_⟩:=hf p.1 hb
  obtain⟨o,e',d⟩:=ho p.1 hb
  rw[e] at e'; cases e'
  exact⟨e,f0,f1,f2,d⟩
theorem Inv.iK {pins pl:List (Addr × U3)} {σ:St} {H:Hp} {s:Ra} (I:Inv X (pins++pl) σ H s):Inv X pins σ H s:=I.Dy fun p hp=>I.pin p (RC _ (Vp _ hp))
theorem gC {iter:Expr} {body:List Stmt} {wi:TI} {g:TG} {tb:TS} {pos:Wi} (hp:PassesOwn (Ru X.prog X.w) X.A X.env X.xe) (hc:X.calm=true) (hi:PI X tg iter wi) (hg:PG X tg g) (hb:PSs X body tb)
  (hs:∀ x,Uu iter X.env x=pure x:=by intro _; rfl):PS X (.For tg iter body [] pos) (QZ wi g tb):=by
 intro pins s σ H D I h
 refine wpAny_For (thn (hi pins s σ H _ I h) fun v s1 h1=>thn h1 fun itv s2 h2=>?_) hs
 obtain⟨it,fp,tn,J,H2,e,I2,T,st2,f2,W,⟨m0,w0⟩,turn⟩:=h2
 subst e
 have stat:∀ {H':Hp},(∀ b∈fp,H' b=none)->∀ b∈fp,sU X pins H' b:=fun hn b hb=>⟨hn b hb,(f2 b hb).2⟩
 refine codeAny_forLoop_any (fun n s'=>∃ i σ' H',Inv X pins σ' H' s'/\tn i s'.heap/\(∀ b∈fp,H' b=none)/\W i n σ' H') ?_ m0 ⟨0,σ,H2,I2,st2,fun b hb=>(f2 b hb).1,w0⟩
 rintro n s3 ⟨i,σ3,H3,I3,st3,fr3,w3⟩
 rcases turn i n σ3 H3 w3 with⟨stop,qn⟩ | ⟨go,N,hN,step⟩
 ·refine Xg hp (thn (T.done X rfl rfl rfl hc i pins s3 σ3 H3 X.xe I3 (stat fr3) st3 stop) fun r s4 ⟨hr,I4⟩=>?_)
  subst hr
  exact Yi ⟨σ3,H3,I4,qn⟩
 ·refine Xg hp (thn (T.item X rfl rfl rfl hc i pins s3 σ3 H3 X.xe I3 (stat fr3) st3 go) fun r s4 ⟨u,hr,h4⟩=>?_)
  subst hr
  refine Xg hp (thn h4 fun _ s5 ⟨x,H5,I5,r5,y5,st5,fr5⟩=>?_)
  have I5':=I5.pinned (stat fr5) (T.obj _ _ st5)
  refine Xg hp (thn (hg _ s5 σ3 H5 x u _ I5' r5 (step x H5 y5)) fun _ s6 ⟨σ6,H6,I6,q6⟩=>?_)
  refine Xg hp (thn (hb _ s6 σ6 H6 _ I6 q6) fun f s7 q7=>?_)
  have XJ:∀ {σ7:St} {H7:Hp},Inv X (pins++lK fp s5.heap) σ7 H7 s7->N σ7 H7->∃ m,m < n/\∃ i σ' H',Inv X pins σ' H' s7/\tn i s7.heap/\(∀ b∈fp,H' b=none)/\W i m σ' H':=fun {σ7 H7} I7 n7=>by
   obtain⟨m',hm,w7⟩:=hN σ7 H7 n7
   refine⟨m',hm,i+1,σ7,H7,I7.iK,T.keep _ _ _ st5 fun b hb o e=>(I7.pin (b,o) (RC _ (RC _ (cN hb e)))).1,fun b hb=>?_,w7⟩
   obtain⟨o,e,d⟩:=T.obj _ _ st5 b hb
   exact (I7.pin (b,o) (RC _ (RC _ (cN hb e)))).2.1
  cases f with
  | next=>obtain⟨σ7,H7,I7,n7⟩:=q7; exact XJ I7 n7
  | cont=>obtain⟨σ7,H7,I7,n7⟩:=q7; exact XJ I7 n7
  | brk=>obtain⟨σ7,H7,I7,q7⟩:=q7; exact⟨σ7,H7,I7.iK,q7⟩
  | ret v=>obtain⟨x7,σ7,H7,I7,r7,q7⟩:=q7; exact⟨x7,σ7,H7,I7.iK,r7,q7⟩
end
theorem o5 {K:RD} {a:Addr} {xs:List V} {g:TG} {tb:TS} {D:Ends} {σ:St} {H:Hp} (Pv:Nat->St->Hp->Prop) (h0:Pv 0 σ H) (hl:∀ i σ H,i<=xs.length->Pv i σ H->SqL K H a xs)
  (hs:∀ i x σ H,xs[i]? = some x->Pv i σ H->g x σ H fun σ2 H2=>tb { D with nx:=Pv (i+1),ct:=Pv (i+1),bk:=D.nx } σ2 H2) (hd:∀ σ H,Pv xs.length σ H->D.nx σ H) :
  ∃ W:Nat->Nat->St->Hp->Prop,(∃ m,W 0 m σ H)/\∀ i m σ H,W i m σ H →
   ((Itl K a).stop i H/\D.nx σ H)∨((Itl K a).go i H/\∃ N:St->Hp->Prop,(∀ σ' H',N σ' H'->∃ m',m' < m/\W (i+1) m' σ' H')/\∀ x H',(Itl K a).yld i H x H'->g x σ H' fun σ2 H2=>tb { D with nx:=N,ct:=N,bk:=D.nx } σ2 H2):=by
 refine⟨fun i m σ H=>m=xs.length - i/\i<=xs.length/\Pv i σ H,⟨xs.length,by simp,Sd _,h0⟩,?_⟩
 rintro i m σ H ⟨rfl,hi,p⟩
 have q:=hl i σ H hi p
 by_cases hlt:i < xs.length
 ·refine .inr ⟨⟨xs,xs[i],q,by simp [hlt]⟩,Pv (i+1),fun σ' H' p'=>⟨xs.length - (i+1),by lia,rfl,hlt,p'⟩,fun x H' y=>?_⟩
  obtain⟨e,y⟩:=y
  subst e
  exact hs i x σ _ (y xs q) p
 ·have e:i=xs.length:=by lia
  subst e
  exact .inl ⟨⟨xs,q,Rh _⟩,hd σ H p⟩
theorem uh {K:RD} {a:Addr} {xs:List V} {g:TG} {tb:TS} {D:Ends} {σ:St} {H:Hp} (Pv:Nat->St->Hp->Prop) (h0:Pv 0 σ H) (hl:∀ i σ H,i<=xs.length->Pv i σ H->SqT K H a xs)
  (hs:∀ i x σ H,xs[i]? = some x->Pv i σ H->g x σ H fun σ2 H2=>tb { D with nx:=Pv (i+1),ct:=Pv (i+1),bk:=D.nx } σ2 H2) (hd:∀ σ H,Pv xs.length σ H->D.nx σ H) :
  ∃ W:Nat->Nat->St->Hp->Prop,(∃ m,W 0 m σ H)/\∀ i m σ H,W i m σ H →
   ((Itt K a).stop i H/\D.nx σ H)∨((Itt K a).go i H/\∃ N:St->Hp->Prop,(∀ σ' H',N σ' H'->∃ m',m' < m/\W (i+1) m' σ' H')/\∀ x H',(Itt K a).yld i H x H'->g x σ H' fun σ2 H2=>tb { D with nx:=N,ct:=N,bk:=D.nx } σ2 H2):=by
 refine⟨fun i m σ H=>m=xs.length - i/\i<=xs.length/\Pv i σ H,⟨xs.length,by simp,Sd _,h0⟩,?_⟩
 rintro i m σ H ⟨rfl,hi,p⟩
 have q:=hl i σ H hi p
 by_cases hlt:i < xs.length
 ·refine .inr ⟨⟨xs,xs[i],q,by simp [hlt]⟩,Pv (i+1),fun σ' H' p'=>⟨xs.length - (i+1),by lia,rfl,hlt,p'⟩,fun x H' y=>?_⟩
  obtain⟨e,y⟩:=y
  subst e
  exact hs i x σ _ (y xs q) p
 ·have e:i=xs.length:=by lia
  subst e
  exact .inl ⟨⟨xs,q,Rh _⟩,hd σ H p⟩
theorem lJ {lo:Int} {n:Nat} {g:TG} {tb:TS} {D:Ends} {σ:St} {H:Hp} (Pv:Nat->St->Hp->Prop) (h0:Pv 0 σ H)
  (hs:∀ i σ H,i < n->Pv i σ H->g (.int (lo+i)) σ H fun σ2 H2=>tb { D with nx:=Pv (i+1),ct:=Pv (i+1),bk:=D.nx } σ2 H2) (hd:∀ σ H,Pv n σ H->D.nx σ H) :
  ∃ W:Nat->Nat->St->Hp->Prop,(∃ m,W 0 m σ H)/\∀ i m σ H,W i m σ H →
   ((Itr lo n).stop i H/\D.nx σ H)∨((Itr lo n).go i H/\∃ N:St->Hp->Prop,(∀ σ' H',N σ' H'->∃ m',m' < m/\W (i+1) m' σ' H')/\∀ x H',(Itr lo n).yld i H x H'->g x σ H' fun σ2 H2=>tb { D with nx:=N,ct:=N,bk:=D.nx } σ2 H2):=by
 refine⟨fun i m σ H=>m=n - i/\i<=n/\Pv i σ H,⟨n,by simp,Sd _,h0⟩,?_⟩
 rintro i m σ H ⟨rfl,hi,p⟩
 by_cases hlt:i < n
 ·refine .inr ⟨hlt,Pv (i+1),fun σ' H' p'=>⟨n - (i+1),by lia,rfl,hlt,p'⟩,fun x H' y=>?_⟩
  obtain⟨e,y⟩:=y
  subst e y
  exact hs i σ _ hlt p
 ·have e:i=n:=by lia
  subst e
  exact .inl ⟨Rh _,hd σ H p⟩
end L2
namespace L2
open PySem PySem.Spec PyProof.Rows
abbrev R2:=V->V->Hp->VK->Prop
def OpR (X:Cx) (f:Value->Value->Sem Value) (r:R2):Prop :=
 ∀ (pins:List (Addr × U3)) (s:Ra) (σ:St) (H:Hp) (x y:V) (v u:Value) (Q:VK),Inv X pins σ H s->RelV x v->RelV y u->r x y H Q →
  Rt (Ru X.prog X.w) X.A (f v u) (EP X pins σ Q) X.xe s
def UnR (X:Cx) (f:Value->Sem Value) (r:V->Hp->VK->Prop):Prop :=
 ∀ (pins:List (Addr × U3)) (s:Ra) (σ:St) (H:Hp) (x:V) (v:Value) (Q:VK),Inv X pins σ H s->RelV x v->r x H Q →
  Rt (Ru X.prog X.w) X.A (f v) (EP X pins σ Q) X.xe s
def je (X:Cx) (f:Value) (r:List V->Hp->VK->Prop):Prop :=
 ∀ (pins:List (Addr × U3)) (s:Ra) (σ:St) (H:Hp) (xs:List V) (us:List Value) (Q:VK),Inv X pins σ H s->Vals xs us->r xs H Q →
  Rt (Ru X.prog X.w) X.A (call f us) (EP X pins σ Q) X.xe s
def tOp (r:R2) (ta tb:TE):TE:=fun σ H Q=>ta σ H fun x H1=>tb σ H1 fun y H2=>r x y H2 Q
def tUn (r:V->Hp->VK->Prop) (ta:TE):TE:=fun σ H Q=>ta σ H fun x H1=>r x H1 Q
def rI (C:Int->Int->Prop) (g:Int->Int->V):R2:=fun x y H Q=>∃ i j,x = .int i/\y = .int j/\C i j/\Q (g i j) H
def rI0 (g:Int->Int->V):R2:=fun x y H Q=>∃ i j,x = .int i/\y = .int j/\Q (g i j) H
def rU (g:Int->V):V->Hp->VK->Prop:=fun x H Q=>∃ i,x = .int i/\Q (g i) H
section
variable {X:Cx} {a b c:Expr} {ta tb tc:TE} {pos:Wi}
theorem Oz (ha:PE X a ta) (hb:PE X b tb) {pins:List (Addr × U3)} {s:Ra} {σ:St} {H:Hp} {R:V->V->Hp->Prop} (I:Inv X pins σ H s)
  (h:ta σ H fun x H1=>tb σ H1 fun y H2=>R x y H2) {Q:Value->Ra->Prop} {f:Value->Value->Sem Value}
  (hf:∀ v u s2 x y H2,Inv X pins σ H2 s2->RelV x v->RelV y u->R x y H2->Rt (Ru X.prog X.w) X.A (f v u) Q X.xe s2) :
  Rt (Ru X.prog X.w) X.A (UG a X.env) (fun v s₁=>Rt (Ru X.prog X.w) X.A (UG b X.env) (fun u s₂=>Rt (Ru X.prog X.w) X.A (f v u) Q X.xe s₂) X.xe s₁) X.xe s:=by
 refine thn (ha pins s σ H _ I h) fun v s1 ⟨x,H1,I1,r1,q1⟩=>?_
 refine thn (hb pins s1 σ H1 _ I1 q1) fun u s2 ⟨y,H2,I2,r2,q2⟩=>?_
 exact hf v u s2 x y H2 I2 r1 r2 q2
theorem aL {op:Operator} {r:R2} (ho:OpR X (VB op) r) (ha:PE X a ta) (hb:PE X b tb):PE X (.BinOp a op b pos) (tOp r ta tb):=by
 intro pins s σ H Q I h
 exact wpAny_BinOp (Oz ha hb I h fun v u s2 x y H2 I2 rx ry q=>ho pins s2 σ H2 x y v u Q I2 rx ry q)
theorem uw {op:UnaryOp} {r:V->Hp->VK->Prop} (ho:UnR X (unaryOp op) r) (ha:PE X a ta):PE X (.UnaryOp op a pos) (tUn r ta):=by
 intro pins s σ H Q I h
 exact UnaryOp_ (thn (ha pins s σ H _ I h) fun v s1 ⟨x,H1,I1,r1,q1⟩=>ho pins s1 σ H1 x v Q I1 r1 q1)
theorem opI {f:Value->Value->Sem Value} {C:Int->Int->Prop} {g:Int->Int->Int}
  (rule:∀ (i j:Int) (t u:ZK) (s:Ra) (Q:Value->Ra->Prop) (E:Value->Ra->Prop),C i j->Q (.int (g i j) s.toks) { s with toks:=s.toks+1 }->Rt (Ru X.prog X.w) X.A (f (.int i t) (.int j u)) Q E s) :
  OpR X f (rI C fun i j=>.int (g i j)):=by
 intro pins s σ H x y v u Q I rx ry h
 obtain⟨i,j,rfl,rfl,hc,q⟩:=h
 obtain⟨t,rfl⟩:=rx
 obtain⟨t',rfl⟩:=ry
 exact rule i j t t' s _ _ hc ⟨.int (g i j),H,I.tok _,⟨_,rfl⟩,q⟩
theorem Ou {f:Value->Value->Sem Value} {g:Int->Int->Int}
  (rule:∀ (i j:Int) (t u:ZK) (s:Ra) (Q:Value->Ra->Prop) (E:Value->Ra->Prop),Q (.int (g i j) s.toks) { s with toks:=s.toks+1 }->Rt (Ru X.prog X.w) X.A (f (.int i t) (.int j u)) Q E s) :
  OpR X f (rI0 fun i j=>.int (g i j)):=by
 intro pins s σ H x y v u Q I rx ry h
 obtain⟨i,j,rfl,rfl,q⟩:=h
 obtain⟨t,rfl⟩:=rx
 obtain⟨t',rfl⟩:=ry
 exact rule i j t t' s _ _ ⟨.int (g i j),H,I.tok _,⟨_,rfl⟩,q⟩
theorem Oj {f:Value->Value->Sem Value} {g:Int->Int->Bool}
  (rule:∀ (i j:Int) (t u:ZK) (s:Ra) (Q:Value->Ra->Prop) (E:Value->Ra->Prop),Q (.bool (g i j)) s->Rt (Ru X.prog X.w) X.A (f (.int i t) (.int j u)) Q E s) :
  OpR X f (rI0 fun i j=>.bl (g i j)):=by
 intro pins s σ H x y v u Q I rx ry h
 obtain⟨i,j,rfl,rfl,q⟩:=h
 obtain⟨t,rfl⟩:=rx
 obtain⟨t',rfl⟩:=ry
 exact rule i j t t' s _ _ ⟨.bl (g i j),H,I,rfl,q⟩
def Q7 (i j:Int):Prop:=0 < j/\j < 1073741824
def QV (i j:Int):Prop:=0<=j/\j<=1000000/\i.natAbs < 2 ^ 64
def O5 (i j:Int):Prop:=(-(2 ^ 64) < i/\i < 2 ^ 64)∨(-(2 ^ 64) < j/\j < 2 ^ 64)
theorem O5.ok {i j:Int} (h:O5 i j):IntMulOk i j:=by
 rcases h with⟨h1,h2⟩ | ⟨h1,h2⟩
 ·exact .of_left (intBits_le_64 h1 h2)
 ·exact .of_right (intBits_le_64 h1 h2)
theorem bK:OpR X (VB .Add) (rI0 fun i j=>.int (i+j)):=Ou fun _ _ _ _ _ _ _ q=>add_int q
theorem gQ:OpR X (VB .Sub) (rI0 fun i j=>.int (i - j)):=Ou fun _ _ _ _ _ _ _ q=>sub_int q
theorem jU:OpR X (VB .Mult) (rI O5 fun i j=>.int (i * j)):=opI fun _ _ _ _ _ _ _ hc q=>mul_int q hc.ok
theorem xQ:OpR X (VB .FloorDiv) (rI Q7 fun i j=>.int (i / j)):=opI fun i j _ _ _ _ _ hc q=>by
 have h1:(0:Int) < j:=hc.1
 have h2:j < 1073741824:=hc.2
 exact floordiv_int (by lia) (by rw[Int.fdiv_eq_ediv_of_nonneg i (by lia)]; exact q) (.inl (PyProof.noPylong_small (by lia)))
theorem di:OpR X (VB .Mod) (rI (fun _ j=>0 < j) fun i j=>.int (i % j)):=opI fun i j _ _ _ _ _ hc q=>by
 have h1:(0:Int) < j:=hc
 exact mod_int' (by lia) (by rw[Int.fmod_eq_emod_of_nonneg i (by lia)]; exact q)
theorem sS:OpR X (VB .Pow) (rI QV fun i j=>.int (i ^ j.toNat)):=opI fun _ _ _ _ _ _ _ hc q=>pow_int_small hc.1 hc.2.1 hc.2.2 q
theorem Kv:OpR X (ZJ .Add) (rI0 fun i j=>.int (i+j)):=Ou fun _ _ _ _ _ _ _ q=>iadd_int q
theorem JX:OpR X (ZJ .Sub) (rI0 fun i j=>.int (i - j)):=Ou fun _ _ _ _ _ _ _ q=>isub_int q
theorem unI {f:Value->Sem Value} {g:Int->Int}
  (rule:∀ (i:Int) (t:ZK) (s:Ra) (Q:Value->Ra->Prop) (E:Value->Ra->Prop),Q (.int (g i) s.toks) { s with toks:=s.toks+1 }->Rt (Ru X.prog X.w) X.A (f (.int i t)) Q E s) :
  UnR X f (rU fun i=>.int (g i)):=by
 intro pins s σ H x v Q I rx h
 obtain⟨i,rfl,q⟩:=h
 obtain⟨t,rfl⟩:=rx
 exact rule i t s _ _ ⟨.int (g i),H,I.tok _,⟨_,rfl⟩,q⟩
theorem lX:UnR X (unaryOp .USub) (rU fun i=>.int (-i)):=unI fun _ _ _ _ _ q=>neg_int q
end
def Qc:V->V->Bool
 | .non,.non=>true | .non,.int _=>true | .int _,.non=>true | .non,.bl _=>true | .bl _,.non=>true | .non,.str _=>true | .str _,.non=>true
 | .int _,.int _=>true | .bl _,.bl _=>true | .str _,.str _=>true | .byt _,.byt _=>true
 | .int _,.str _=>true | .str _,.int _=>true | .bl _,.str _=>true | .str _,.bl _=>true
 | _,_=>false
def rEq:R2:=fun x y H Q=>Qc x y=true/\Q (.bl (decide (x=y))) H
def rNe:R2:=fun x y H Q=>Qc x y=true/\Q (.bl (!decide (x=y))) H
theorem Eh {i j:Int}:decide (V.int i=V.int j)=(i == j):=by
 rw[Td]
 simp
theorem HH {i j:Bool}:decide (V.bl i=V.bl j)=(i == j):=by
 rw[Td]
 simp
theorem ye {i j:Str}:decide (V.str i=V.str j)=(i == j):=by
 rw[Td]
 simp
theorem CQ {i j:Array UInt8}:decide (V.byt i=V.byt j)=(i.toList == j.toList):=by
 rw[Td]
 cases i
 cases j
 simp
section
variable {X:Cx} {a b c:Expr} {ta tb tc:TE} {pos:Wi}
theorem bV {pins:List (Addr × U3)} {σ:St} {H:Hp} {s:Ra} {Q:VK} {k k':Bool} (I:Inv X pins σ H s) (q:Q (.bl k) H) (e:k=k'):EP X pins σ Q (.bool k') s:=by
 subst e
 exact⟨.bl k,H,I,rfl,q⟩
theorem cD:OpR X (T6 .Eq) rEq:=by
 intro pins s σ H x y v u Q I rx ry h
 obtain⟨hs,q⟩:=h
 cases x with
 | non =>
  cases rx
  cases y with
  | non=>cases ry; exact PySem.EqNone.eq_none_none (bV I q (by simp))
  | bl j=>cases ry; exact PySem.EqNone.eq_none_bool (bV I q (by simp))
  | int j=>obtain⟨t',rfl⟩:=ry; exact PySem.EqNone.eq_none_int (bV I q (by simp))
  | str j=>obtain⟨t',rfl⟩:=ry; exact PySem.EqNone.eq_none_str (bV I q (by simp))
  | _=>exact absurd (show false=true from hs) Rv
 | bl i =>
  cases rx
  cases y with
  | non=>cases ry; exact PySem.EqNone.eq_bool_none (bV I q (by simp))
  | bl j=>cases ry; exact eq_bool (bV I q HH)
  | str j=>obtain⟨t',rfl⟩:=ry; exact PySem.EqMixed.eq_bool_str (bV I q (by simp))
  | _=>exact absurd (show false=true from hs) Rv
 | int i =>
  obtain⟨t,rfl⟩:=rx
  cases y with
  | non=>cases ry; exact PySem.EqNone.eq_int_none (bV I q (by simp))
  | int j=>obtain⟨t',rfl⟩:=ry; exact eq_int (bV I q Eh)
  | str j=>obtain⟨t',rfl⟩:=ry; exact PySem.EqMixed.eq_int_str (bV I q (by simp))
  | _=>exact absurd (show false=true from hs) Rv
 | str i =>
  obtain⟨t,rfl⟩:=rx
  cases y with
  | non=>cases ry; exact PySem.EqNone.eq_str_none (bV I q (by simp))
  | bl j=>cases ry; exact PySem.EqMixed.eq_str_bool (bV I q (by simp))
  | int j=>obtain⟨t',rfl⟩:=ry; exact PySem.EqMixed.eq_str_int (bV I q (by simp))
  | str j=>obtain⟨t',rfl⟩:=ry; exact eq_str (bV I q ye)
  | _=>exact absurd (show false=true from hs) Rv
 | byt i =>
  obtain⟨t,rfl⟩:=rx
  cases y with
  | byt j=>obtain⟨t',rfl⟩:=ry; exact PySem.W.eq_bytes (bV I q CQ)
  | _=>exact absurd (show false=true from hs) Rv
 | _=>cases y <;> exact absurd (show false=true from hs) Rv
theorem rM:OpR X (T6 .NotEq) rNe:=by
 intro pins s σ H x y v u Q I rx ry h
 obtain⟨hs,q⟩:=h
 cases x with
 | non =>
  cases rx
  cases y with
  | non=>cases ry; exact PySem.EqNone.ne_none_none (bV I q (by simp))
  | bl j=>cases ry; exact PySem.EqNone.ne_none_bool (bV I q (by simp))
  | int j=>obtain⟨t',rfl⟩:=ry; exact PySem.EqNone.ne_none_int (bV I q (by simp))
  | str j=>obtain⟨t',rfl⟩:=ry; exact PySem.EqNone.ne_none_str (bV I q (by simp))
  | _=>exact absurd (show false=true from hs) Rv
 | bl i =>
  cases rx
  cases y with
  | non=>cases ry; exact PySem.EqNone.ne_bool_none (bV I q (by simp))
  | bl j=>cases ry; exact ne_bool (bV I q (congrArg not HH))
  | str j=>obtain⟨t',rfl⟩:=ry; exact PySem.EqMixed.ne_bool_str (bV I q (by simp))
  | _=>exact absurd (show false=true from hs) Rv
 | int i =>
  obtain⟨t,rfl⟩:=rx
  cases y with
  | non=>cases ry; exact PySem.EqNone.ne_int_none (bV I q (by simp))
  | int j=>obtain⟨t',rfl⟩:=ry; exact ne_int (bV I q (congrArg not Eh))
  | str j=>obtain⟨t',rfl⟩:=ry; exact PySem.EqMixed.ne_int_str (bV I q (by simp))
  | _=>exact absurd (show false=true from hs) Rv
 | str i =>
  obtain⟨t,rfl⟩:=rx
  cases y with
  | non=>cases ry; exact PySem.EqNone.ne_str_none (bV I q (by simp))
  | bl j=>cases ry; exact PySem.EqMixed.ne_str_bool (bV I q (by simp))
  | int j=>obtain⟨t',rfl⟩:=ry; exact PySem.EqMixed.ne_str_int (bV I q (by simp))
  | str j=>obtain⟨t',rfl⟩:=ry; exact ne_str (bV I q (congrArg not ye))
  | _=>exact absurd (show false=true from hs) Rv
 | byt i =>
  obtain⟨t,rfl⟩:=rx
  cases y with
  | byt j=>obtain⟨t',rfl⟩:=ry; exact PySem.W.ne_bytes (bV I q (congrArg not CQ))
  | _=>exact absurd (show false=true from hs) Rv
 | _=>cases y <;> exact absurd (show false=true from hs) Rv
theorem uN:OpR X (T6 .Lt) (rI0 fun i j=>.bl (decide (i < j))):=Oj fun _ _ _ _ _ _ _ q=>lt_int q
theorem mF:OpR X (T6 .LtE) (rI0 fun i j=>.bl (decide (i<=j))):=Oj fun _ _ _ _ _ _ _ q=>le_int q
theorem uG:OpR X (T6 .Gt) (rI0 fun i j=>.bl (decide (j < i))):=Oj fun _ _ _ _ _ _ _ q=>gt_int q
theorem PB:OpR X (T6 .GtE) (rI0 fun i j=>.bl (decide (j<=i))):=Oj fun _ _ _ _ _ _ _ q=>ge_int q
theorem lu:OpR X (T6 .In) (fun x y H Q=>∃ i j,x = .str i/\y = .str j/\Q (.bl (!(U7 j i 0 j.length 1).isEmpty)) H):=by
 intro pins s σ H x y v u Q I rx ry h
 obtain⟨i,j,rfl,rfl,q⟩:=h
 obtain⟨t,rfl⟩:=rx
 obtain⟨t',rfl⟩:=ry
 exact in_str (bV I q rfl)
theorem aK (b:Expr) {op:ZZ} (h:op≠.In:=by decide) (h2:op≠.NotIn:=by decide):VG op b=false:=by
 have e1:(op == CmpOp.In)=false:=by cases op <;> first | rfl | exact absurd rfl h
 have e2:(op == CmpOp.NotIn)=false:=by cases op <;> first | rfl | exact absurd rfl h2
 cases b <;> simp [VG,e1,e2]
theorem cR {op:ZZ} {r:R2} (ho:OpR X (T6 op) r) (ha:PE X a ta) (hb:PE X b tb) (hm:VG op b=false):PE X (.Compare a [op] [b] pos) (tOp r ta tb):=by
 intro pins s σ H Q I h
 exact wpAny_Compare1 (Oz ha hb I h fun v u s2 x y H2 I2 rx ry q=>ho pins s2 σ H2 x y v u Q I2 rx ry q) hm
def Lf (t:TE):TT:=fun σ H Q=>t σ H fun x H'=>∃ k,x = .bl k/\Q k H'
theorem aD {op:ZZ} {r:R2} (ho:OpR X (T6 op) r) (ha:PE X a ta) (hb:PE X b tb) (hm:VG op b=false):PT X (.Compare a [op] [b] pos) (Lf (tOp r ta tb)):=by
 intro pins s σ H Q I h
 refine wpAny_isTrue_Compare1 (thn (ha pins s σ H _ I h) fun v s1 ⟨x,H1,I1,r1,q1⟩=>thn (hb pins s1 σ H1 _ I1 q1) fun u s2 ⟨y,H2,I2,r2,q2⟩ =>
  thn (ho pins s2 σ H2 x y v u _ I2 r1 r2 q2) fun c s3 ⟨z,H3,I3,r3,k,e,q3⟩=>?_) hm
 subst e
 cases r3
 exact Us ⟨H3,I3,q3⟩
def Ea (r r':R2) (ta tb tc:TE):TE:=fun σ H Q=>ta σ H fun x H1=>tb σ H1 fun y H2=>r x y H2 fun z H3=>∃ k,z = .bl k ∧
 (if k=true then tc σ H3 fun w' H4=>r' y w' H4 Q else Q (.bl false) H3)
theorem yZ {op op':ZZ} {r r':R2} (ho:OpR X (T6 op) r) (ho':OpR X (T6 op') r') (ha:PE X a ta) (hb:PE X b tb) (hc:PE X c tc)
  (hm:lastMarks [op,op'] [b,c]=false:=by with_unfolding_all rfl):PE X (.Compare a [op,op'] [b,c] pos) (Ea r r' ta tb tc):=by
 intro pins s σ H Q I h
 refine Compare_chain (thn (ha pins s σ H _ I h) fun v s1 ⟨x,H1,I1,r1,q1⟩=>chain_link (thn (hb pins s1 σ H1 _ I1 q1) fun u s2 ⟨y,H2,I2,r2,q2⟩ =>
  thn (ho pins s2 σ H2 x y v u _ I2 r1 r2 q2) fun d s3 ⟨z,H3,I3,r3,k,e,q3⟩=>?_)) hm
 subst e
 cases r3
 refine Us ?_
 cases k with
 | false=>exact ite_ff ⟨.bl false,H3,I3,rfl,q3⟩
 | true=>exact ite_tt (chain_last (thn (hc pins s3 σ H3 _ I3 q3) fun w' s4 ⟨z',H4,I4,r4,q4⟩=>ho' pins s4 σ H4 y z' u w' Q I4 r2 r4 q4))
theorem ph {op op':ZZ} {r r':R2} (ho:OpR X (T6 op) r) (ho':OpR X (T6 op') r') (ha:PE X a ta) (hb:PE X b tb) (hc:PE X c tc)
  (hm:lastMarks [op,op'] [b,c]=false:=by with_unfolding_all rfl):PT X (.Compare a [op,op'] [b,c] pos) (Lf (Ea r r' ta tb tc)):=by
 intro pins s σ H Q I h
 refine isTrue_chain (thn (ha pins s σ H _ I h) fun v s1 ⟨x,H1,I1,r1,q1⟩=>test_link (thn (hb pins s1 σ H1 _ I1 q1) fun u s2 ⟨y,H2,I2,r2,q2⟩ =>
  thn (ho pins s2 σ H2 x y v u _ I2 r1 r2 q2) fun d s3 ⟨z,H3,I3,r3,k,e,q3⟩=>?_)) hm
 subst e
 cases r3
 refine Us ?_
 cases k with
 | false =>
  obtain⟨k',e',q'⟩:=q3
  cases e'
  exact ite_ff ⟨H3,I3,q'⟩
 | true =>
  refine ite_tt (test_last (thn (hc pins s3 σ H3 _ I3 q3) fun w' s4 ⟨z',H4,I4,r4,q4⟩=>thn (ho' pins s4 σ H4 y z' u w' _ I4 r2 r4 q4) fun d' s5 ⟨z2,H5,I5,r5,k2,e2,q5⟩=>?_))
  subst e2
  cases r5
  exact Us ⟨H5,I5,q5⟩
theorem rP:(sizeLine:Nat) < 2 ^ 63:=by rw[ZV]; decide
theorem aP:OpR X (VB .Add) (fun x y H Q=>∃ i j,x = .str i/\y = .str j/\i.length+j.length<=sizeLine/\Q (.str (i++j)) H):=by
 intro pins s σ H x y v u Q I rx ry h
 obtain⟨i,j,rfl,rfl,hz,q⟩:=h
 obtain⟨t,rfl⟩:=rx
 obtain⟨t',rfl⟩:=ry
 exact add_str (fun t' tk=>⟨.str (i++j),H,I.tok _,⟨_,rfl⟩,q⟩) hz
theorem vals1 {x:V} {us:List Value} (r:Vals [x] us):∃ u,us=[u]/\RelV x u:=by
 cases r with
 | cons r1 r2=>cases r2; exact⟨_,rfl,r1⟩
theorem vals2 {x y:V} {us:List Value} (r:Vals [x,y] us):∃ u w',us=[u,w']/\RelV x u/\RelV y w':=by
 cases r with
 | cons r1 r2 =>
  cases r2 with
  | cons r3 r4=>cases r4; exact⟨_,_,rfl,r1,r3⟩
theorem pq:je X (.builtin "abs") (fun xs H Q=>∃ i,xs=[.int i]/\Q (.int (if i < 0 then -i else i)) H):=by
 intro pins s σ H xs us Q I r h
 obtain⟨i,rfl,q⟩:=h
 obtain⟨u,rfl,t,rfl⟩:=vals1 r
 exact call_abs_int fun u tk=>⟨.int (if i < 0 then -i else i),H,I.tok _,⟨_,rfl⟩,q⟩
theorem DG (hc:X.calm=true):je X (.builtin "max") (fun xs H Q=>∃ i j,xs=[.int i,.int j]/\Q (.int (if j > i then j else i)) H):=by
 intro pins s σ H xs us Q I r h
 obtain⟨i,j,rfl,q⟩:=h
 obtain⟨u,w',rfl,⟨t,rfl⟩,⟨t',rfl⟩⟩:=vals2 r
 refine max_two_ints (I.ok.hd hc) fun h' tk k=>⟨_,H,I.kept k,?_,q⟩
 by_cases hj:j > i
 ·rw[if_pos hj,if_pos hj]; exact⟨_,rfl⟩
 ·rw[if_neg hj,if_neg hj]; exact⟨_,rfl⟩
theorem uT (hc:X.calm=true):je X (.builtin "min") (fun xs H Q=>∃ i j,xs=[.int i,.int j]/\Q (.int (if j < i then j else i)) H):=by
 intro pins s σ H xs us Q I r h
 obtain⟨i,j,rfl,q⟩:=h
 obtain⟨u,w',rfl,⟨t,rfl⟩,⟨t',rfl⟩⟩:=vals2 r
 refine min_two_ints (I.ok.hd hc) fun h' tk k=>⟨_,H,I.kept k,?_,q⟩
 by_cases hj:j < i
 ·rw[if_pos hj,if_pos hj]; exact⟨_,rfl⟩
 ·rw[if_neg hj,if_neg hj]; exact⟨_,rfl⟩
theorem jC:je X (.type "int") (fun xs H Q=>(∃ i,xs=[.int i]/\Q (.int i) H)∨∃ k,xs=[.bl k]/\Q (.int (if k then 1 else 0)) H):=by
 intro pins s σ H xs us Q I r h
 rcases h with⟨i,rfl,q⟩ | ⟨k,rfl,q⟩
 ·obtain⟨u,rfl,t,rfl⟩:=vals1 r
  exact call_int_int ⟨.int i,H,I,⟨_,rfl⟩,q⟩
 ·obtain⟨u,rfl,r1⟩:=vals1 r
  cases r1
  exact call_int_bool ⟨.int (if k then 1 else 0),H,I.tok _,⟨_,rfl⟩,q⟩
theorem dJ:je X (.type "str") (fun xs H Q=>∃ i,xs=[.int i]/\i.natAbs.log2 < 1920/\Q (.str (toString i)) H):=by
 intro pins s σ H xs us Q I r h
 obtain⟨i,rfl,hz,q⟩:=h
 obtain⟨u,rfl,t,rfl⟩:=vals1 r
 exact PySem.P.str_of_int hz ⟨.str _,H,I.tok _,⟨_,rfl⟩,q⟩
end
end L2
namespace L2
open PySem PySem.Spec PyProof.Rows
structure Pr (h:Tf) (x dx C:Addr) (mA:Str->Option Value):Prop where
 obj:h.get? x=some (Z1 C dx)
 ns:h.Ns1 dx mA
 ne:dx≠x
theorem vm {h:Tf} {dx:Addr} {mA:Str->Option Value} (n:h.Ns1 dx mA):∃ od,h.get? dx=some od/\∀ name,PySem.W.lookIn name od=some (mA name):=by
 obtain⟨o,es,ep,ho,hd,hk,_,hm⟩:=n
 refine⟨o,ho,fun name=>?_⟩
 have e:=hm name
 unfold nsFind findBy at e
 rw[← Array.find?_toList] at e
 unfold PySem.W.lookIn
 rw[hd]
 dsimp only
 split
 ·rename_i y q
  rw[q] at e
  exact congrArg some e
 ·rename_i q
  rw[q] at e
  have a:es.toList.any (·.refKey)=false:=by
   rw[List.any_eq_false]
   intro y hy
   obtain⟨z,t,hkey⟩:=hk y (Array.mem_toList_iff.mp hy)
   simp [DictEntry.refKey,hkey]
  have a':¬ es.toList.any (·.refKey)=true:=by rw[a]; exact Rv
  rw[if_neg a']
  exact congrArg some e
theorem Pr.look {h:Tf} {x dx C:Addr} {mA:Str->Option Value} (I:Pr h x dx C mA):∃ od,PySem.W.InstAt h x (Z1 C dx) C (some od)/\∀ name,PySem.W.lookIn name od=some (mA name) :=
 let ⟨od,ho,hl⟩:=vm I.ns
 ⟨od,⟨I.obj,rfl,rfl,ho⟩,hl⟩
section
variable {prog:RV} {w:Sv} {A:Sh} {E:Value->Ra->Prop} {s:Ra} {K:RD} {x dx C f:Addr} {mA:Str->Option Value} {name:Str} {v:Value}
end
theorem HR.some_of {v:V} {o:Option Value} (r:HR (some v) o):∃ u,o=some u/\RelV v u:=by
 cases o with
 | none=>exact (show False from r).elim
 | some u=>exact⟨u,rfl,r⟩
theorem Cu {v:V} {u:Value} (r:RelV v u):PySem.W.handedIn u=true:=by
 cases v with
 | non=>cases (show u=SQ from r); rfl
 | bl b=>cases (show u=Y7 b from r); rfl
 | int i=>obtain⟨t,e⟩:=(show ∃ t,u=YG i t from r); cases e; rfl
 | str x=>obtain⟨t,e⟩:=(show ∃ t,u=Value.str x t from r); cases e; rfl
 | byt b=>obtain⟨t,e⟩:=(show ∃ t,u=Value.bytes b t from r); cases e; rfl
 | flt b=>obtain⟨t,e⟩:=(show ∃ t,u=Value.float b t from r); cases e; rfl
 | ref a=>cases (show u=R5 a from r); rfl
 | ty n=>cases (show u=VN n from r); rfl
section
variable {P:RV} {w:Sv} {H H':Hp} {h h':Tf} {a C dx:Addr} {fs fs':List (Str × V)}
theorem J0 (hok:HOk P w H h) (e:H a=some (.ins C dx fs)):∃ mA,Pr h a dx C mA/\(∀ f,HR (fs.lookup f) (mA f))/\PySem.Within mA (fs.map (·.1))/\fs.length<=1000/\H dx=some (.own a):=by
 obtain⟨d,z,ne,ob,mA,n,r,q⟩:=(show fV P w H h a (.ins C dx fs) from hok a _ e)
 exact⟨mA,⟨ob,n,ne⟩,r,q,z,d⟩
end
structure Cls (K:RD) (C:Addr):Prop where
 pg:PySem.W.plainGet K C Str.empty=true
 hd:Zu K C=true
 po:PySem.W.plainOver K C=true
 sa:VV K (.ref C) "__setattr__" = some (some (.builtin "object.__setattr__"))
theorem Cls.get {K:RD} {C:Addr} (c:Cls K C) (f:Str):PySem.W.plainGet K C f=true:=c.pg
section
variable {X:Cx} {pins:List (Addr × U3)} {σ:St} {H:Hp} {s:Ra} {a C dx:Addr} {fs:List (Str × V)} {f:Str} {v:V} {A:Sh} {E:Value->Ra->Prop}
theorem JS {prog:RV} {w:Sv} {env:WQ} {e:Expr} {f:Str} {pos:Wi} {s:Ra} {Q:Value->Ra->Prop} (hb:attributeBase e f env (UG e env)=UG e env)
  (h:Rt (Ru prog w) A (UG e env) (fun o s₁=>Rt (Ru prog w) A (getAttr o f true) Q E s₁) E s):Rt (Ru prog w) A (UG (.Attribute e f pos) env) Q E s :=
 Attribute_any_ h (by rw[arm_eval_Attribute,hb])
end
section
variable {X:Cx} {o e value:Expr} {f:Str} {pos pos' tpos:Wi} {ta tv:TE}
end
section
variable {X:Cx} {pins:List (Addr × U3)} {σ:St} {H:Hp} {s:Ra} {A:Sh} {E:Value->Ra->Prop} {Q:Value->Ra->Prop} {c:Value} {b:Bool}
inductive Ag (K:RD) (H:Hp):V->Value->Prop where
 | non:Ag K H .non (.type "NoneType")
 | bl (x:Bool):Ag K H (.bl x) (.type "bool")
 | int (i:Int):Ag K H (.int i) (.type "int")
 | str (x:Str):Ag K H (.str x) (.type "str")
 | flt (x:UInt64):Ag K H (.flt x) (.type "float")
 | lst {a:Addr} {xs:List V} (e:H a=some (.lst xs)):Ag K H (.ref a) (.type "list")
 | frz {a:Addr} {o:U3} {xs:List V} (e:H a=some (.frz o (.lst xs))):Ag K H (.ref a) (.type "list")
 | tup {a:Addr} {xs:List V} (e:H a=some (.tup xs)):Ag K H (.ref a) (.type "tuple")
 | dK {a:Addr} {kvs:List (Key × V)} (e:H a=some (.dK kvs)):Ag K H (.ref a) (.type "dict")
 | dT {a:Addr} {kvs:List (List Key × V)} (e:H a=some (.dT kvs)):Ag K H (.ref a) (.type "dict")
 | ins {a C dx:Addr} {fs:List (Str × V)} (e:H a=some (.ins C dx fs)) (cl:Cls K C) (ha:VV K (.ref C) "__class__" = some (some (.builtin "object.__class__")))
   (hn:PySem.W.specialIn K (.builtin "object.__class__") "__get__" = some (some (.builtin "getset_descriptor.__get__"))) (htk:PySem.W.takesIn K (.builtin "object.__class__")=some true)
   (hm:PySem.W.mroIn K C (.type "object")=some true):Ag K H (.ref a) (.ref C)
theorem BR {x:V} {u t:Value} (I:Inv X pins σ H s) (rx:RelV x u) (ty:Ag X.K H x t) (e:PySem.W.kitOne X.K t c=some b) (h:∀ tk,Q (.bool b) { s with toks:=tk }) :
  Rt (Ru X.prog X.w) A (call (.builtin "isinstance") [u,c]) Q E s:=by
 cases ty with
 | non=>cases (show u=SQ from rx); exact Uj PySem.W.kitx_none I.kIn Y8 e (fun z=>nomatch z) h
 | bl y=>cases (show u=Y7 y from rx); exact Uj PySem.W.kitx_bool I.kIn Y8 e (fun z=>nomatch z) h
 | int i=>obtain⟨t,q⟩:=(show ∃ t,u=YG i t from rx); cases q; exact Uj PySem.W.kitx_int I.kIn Y8 e (fun z=>nomatch z) h
 | str y=>obtain⟨t,q⟩:=(show ∃ t,u=Value.str y t from rx); cases q; exact Uj PySem.W.kitx_str I.kIn Y8 e (fun z=>nomatch z) h
 | flt y=>obtain⟨t,q⟩:=(show ∃ t,u=Value.float y t from rx); cases q; exact Uj PySem.W.kitx_float I.kIn Y8 e (fun z=>nomatch z) h
 | @lst a xs ea =>
  cases (show u=R5 a from rx)
  obtain⟨_,_,n,_,h1⟩:=(show fV X.prog X.w H s.heap a (.lst xs) from I.hok a _ ea)
  exact Uj PySem.W.kitx_list I.kIn ⟨_,h1,rfl⟩ e (fun z=>nomatch z) h
 | @frz a ob xs ea =>
  cases (show u=R5 a from rx)
  obtain⟨_,_,_,n,_,h1⟩:=(show fV X.prog X.w H s.heap a (.frz ob (.lst xs)) from I.hok a _ ea)
  exact Uj PySem.W.kitx_list I.kIn ⟨_,h1,rfl⟩ e (fun z=>nomatch z) h
 | @tup a xs ea =>
  cases (show u=R5 a from rx)
  obtain⟨_,_,_,p⟩:=(show fV X.prog X.w H s.heap a (.tup xs) from I.hok a _ ea)
  obtain⟨o,h1,h2,_⟩:=p
  exact Uj PySem.W.kitx_tuple I.kIn ⟨o,h1,h2⟩ e (fun z=>nomatch z) h
 | @dK a kvs ea =>
  cases (show u=R5 a from rx)
  obtain⟨_,_,vs,_,p⟩:=(show fV X.prog X.w H s.heap a (.dK kvs) from I.hok a _ ea)
  obtain⟨o,es,ep,h1,h2,_⟩:=p
  exact Uj PySem.W.kitx_dict I.kIn ⟨o,h1,h2.1⟩ e (fun z=>nomatch z) h
 | @dT a kvs ea =>
  cases (show u=R5 a from rx)
  obtain⟨_,_,xs,_,o,es,ep,h1,h2,_⟩:=(show fV X.prog X.w H s.heap a (.dT kvs) from I.hok a _ ea)
  exact Uj PySem.W.kitx_dict I.kIn ⟨o,h1,h2.1⟩ e (fun z=>nomatch z) h
 | @ins a C dx fs ea cl ha hn htk hm =>
  cases (show u=R5 a from rx)
  obtain⟨mA,O,_⟩:=J0 I.hok ea
  obtain⟨od,J,_⟩:=O.look
  exact Uj (PySem.W.kitx_own (cl.get _) cl.hd ha hn htk hm) I.kIn J e (fun z=>nomatch z) h
end
end L2
namespace L2
open PySem PySem.Spec PyProof.Rows
structure gB (k:Nat) (A:Sh):Prop where
 hd:A.handled=none
 dp:A.depth+3 * k+5 < recursionLimit
 un:A.units+16 * k+200 < cLine
theorem gB.mono {j k:Nat} {A:Sh} (r:gB k A) (h:j<=k):gB j A:=⟨r.hd,by have:=r.dp; lia,by have:=r.un; lia⟩
theorem gB.deeper {k:Nat} {A:Sh} (r:gB (k+1) A) (env:WQ):gB k (A.deeper env) :=
 ⟨r.hd,by have:=r.dp; show A.depth+1+3 * k+5 < _; lia,by have:=r.un; show A.units+3+16 * k+200 < _; lia⟩
theorem Av {A:Sh} {C:Addr} {us:List Value} {kw:List (Str × Value)}:(A.under (.builtin "type.__call__" ⟨.ref C::us,kw⟩)).depth=A.depth+1:=by
 first | rfl | simp [Around.under,Code.weight,Code.isCreation,Code.isGuard,Code.isCaller,Code.frames,Code.isFrame,guardIds]
theorem zR {A:Sh} {C:Addr} {us:List Value} {kw:List (Str × Value)}:(A.under (.builtin "type.__call__" ⟨.ref C::us,kw⟩)).units=A.units+1:=by
 first | rfl | simp [Around.under,Code.cUnits,Code.frames,Code.isFrame]
theorem gB.make {k:Nat} {A:Sh} (r:gB (k+1) A) (C:Addr) (us:List Value) (kw:List (Str × Value)):gB k (A.under (.builtin "type.__call__" ⟨.ref C::us,kw⟩)) :=
 ⟨r.hd,by have:=r.dp; rw[Av]; lia,by have:=r.un; rw[zR]; lia⟩
theorem gB.depth {k:Nat} {A:Sh} (r:gB k A):A.depth < recursionLimit:=by have:=r.dp; lia
theorem gB.units {k:Nat} {A:Sh} (r:gB k A):A.units+64 < cLine:=by have:=r.un; lia
theorem gB.pQ {k:Nat} {A:Sh} (r:gB k A):A.units < cLine:=by have:=r.un; lia
def Fz:TA:=fun _ H Q=>Q [] H
def oO (ta:TE) (tr:TA):TA:=fun σ H Q=>ta σ H fun x H1=>tr σ H1 fun xs H2=>Q (x::xs) H2
section
variable {X:Cx} {e:Expr} {es:List Expr} {te:TE} {t:TA} {pos:Wi}
theorem ao:PA X [] Fz:=fun _ _ _ _ H Q I h=>Zy ⟨[],H,I,.nil,h⟩
theorem aa (ha:PE X e te) (hr:PA X es t) (hs:R9 (e::es) X.env=(false,UG e X.env)::R9 es X.env:=by rfl):PA X (e::es) (oO te t):=by
 intro pos pins s σ H Q I h
 rw[hs]
 show Rt _ _ (spliced ((false,UG e X.env)::We pos (R9 es X.env))) _ _ s
 refine Zg (thn (ha pins s σ H _ I h) fun u s1 ⟨x,H1,I1,r1,q1⟩=>?_)
 exact thn (hr pos pins s1 σ H1 _ I1 q1) fun us s2 ⟨xs,H2,I2,r2,q2⟩=>⟨x::xs,H2,I2,.cons r1 r2,q2⟩
def Qj (t:TA):TE:=fun σ H Q=>t σ H fun xs H1=>xs.length<=sizeLine/\∀ p,H1 p=none->Q (.ref p) (upd H1 p (.tup xs))
def Oo (t:TA):TE:=fun σ H Q=>t σ H fun xs H1=>xs.length<=sizeLine/\∀ p,H1 p=none->Q (.ref p) (upd H1 p (.lst xs))
theorem bh {x1} (h:PA X es t):PE X (.Tuple es x1 pos) (Qj t):=by
 intro pins s σ H Q I hq
 refine wpAny_Tuple_spliced (thn (h pos pins s σ H _ I hq) fun us s1 ⟨xs,H1,I1,r,z,q⟩=>⟨by rw[← r.length]; exact z,?_⟩)
 have hf:H1 s1.heap.objs.size=none:=I1.hok.fresh (Rh _)
 refine⟨.ref s1.heap.objs.size,upd H1 s1.heap.objs.size (.tup xs),I1.laid (t':=s1.toks) (fun b u e=>Rb _ e) (Rh _) ?_,rfl,q _ hf⟩
 exact⟨z,us,r,⟨_,RK _ rfl,rfl,_,rfl⟩⟩
theorem cj (h:PA X es t):PE X (.List es pos) (Oo t):=by
 intro pins s σ H Q I hq
 refine wpAny_List_spliced (thn (h pos pins s σ H _ I hq) fun us s1 ⟨xs,H1,I1,r,z,q⟩=>⟨by rw[← r.length]; exact z,?_⟩)
 have hf:H1 s1.heap.objs.size=none:=I1.hok.fresh (Rh _)
 refine⟨.ref s1.heap.objs.size,upd H1 s1.heap.objs.size (.lst xs),I1.laid (t':=s1.toks) (fun b u e=>Rb _ e) (Rh _) ?_,rfl,q _ hf⟩
 exact⟨z,us,0,r,RK _ rfl⟩
end
abbrev Sp:=List V->Hp->VK->XK->Prop
abbrev CXT:=List WQ->Hp->Ra->XK->Value->Ra->Prop
structure Ff (P:RV) (w:Sv) (K:RD) (mg:Str->Option Value) (base:Tf) (A:Sh) (outer:List WQ) (s:Ra) (H:Hp):Prop where
 frames:A.frames=some outer
 mod:Mod K mg base
 bs:∀ b o,base.get? b=some o->s.heap.get? b=some o/\H b=none
 bsz:base.objs.size<=s.heap.objs.size
 rH:s.heap.FunFrames base outer
 frf:∀ b∈frs outer,H b=none
 hok:HOk P w H s.heap
 bare:Xx s.gens
def CE (outer:List WQ) (P:RV) (w:Sv) (H:Hp) (s:Ra) (Q:VK) (u:Value) (s':Ra):Prop :=
 ∃ v H',s'.os=s.os/\Xx s'.gens/\Un (frs outer) [] H H' s.heap s'.heap/\HOk P w H' s'.heap/\RelV v u/\Q v H'
def CR (CX:CXT) (outer:List WQ) (P:RV) (w:Sv) (H:Hp) (s:Ra) (Q:VK) (E:XK) (r:Yw) (s':Ra):Prop :=
 match r with
 | .ok (.ret u)=>CE outer P w H s Q u s'
 | .ok _=>False
 | .error e=>CX outer H s E e s'
structure dB (P:RV) (w:Sv) (K:RD) (mg:Str->Option Value) (base:Tf) (CX:CXT) (k:Nat) (f:Addr) (fd:Tp) (ps:List Str) (sp:Sp):Prop where
 len:∀ vs H Q E,sp vs H Q E->vs.length=ps.length
 run:∀ (A:Sh) (outer:List WQ) (s:Ra) (H:Hp) (args:Args) (us:List Value) (vs:List V) (Q:VK) (E:XK),gB k A->Ff P w K mg base A outer s H->Yg s fd args (ps.zip us)->Vals vs us->sp vs H Q E →
  T5 (Ru P w) A (.call (.ref f) args) (CR CX outer P w H s Q E) s
theorem Ff.make {P:RV} {w:Sv} {K:RD} {mg:Str->Option Value} {base:Tf} {A:Sh} {outer:List WQ} {s:Ra} {H:Hp} (e:Ff P w K mg base A outer s H) (C:Addr) (us:List Value) (kw:List (Str × Value)) :
  Ff P w K mg base (A.under (.builtin "type.__call__" ⟨.ref C::us,kw⟩)) outer s H:=⟨by first | exact e.frames | (simpa [Around.under,Code.envs,Code.isFrame,pushEnvs] using e.frames),e.mod,e.bs,e.bsz,e.rH,e.frf,e.hok,e.bare⟩
section
variable {X:Cx} {pins:List (Addr × U3)} {σ:St} {H:Hp} {s s':Ra}
theorem Inv.env0 (I:Inv X pins σ H s):Ff X.prog X.w X.K X.mg X.base X.A X.stack s H :=
 ⟨I.ok.frames,I.ok.mod,I.bs,RP I.ok.bsz I.sz,I.stack,I.wR,I.hok,I.bare⟩
theorem Inv.after {Q:VK} {u:Value} (I:Inv X pins σ H s) (h:CE X.stack X.prog X.w H s Q u s'):EP X pins σ Q u s':=by
 obtain⟨v,H',os,bare,un,hok,r,q⟩:=h
 obtain⟨hh,g,d,t,os'⟩:=s'
 obtain rfl:os'=s.os:=os
 exact⟨v,H',I.call (h':=hh) (g':=g) (d':=d) (t':=t) (ch:=[]) un hok bare (fun b z=>absurd z (by simp)),r,q⟩
end
def yd (sp:Sp) (dvs:List V) (E:XK) (t:TA):TE:=fun σ H Q=>t σ H fun vs H1=>sp (vs++dvs) H1 Q E
def Binds (K:RD) (fd:Tp) (ps:List Str) (ds:List Value):Prop :=
 ∀ (s:Ra) (us:List Value),K.In s.heap->(us++ds).length=ps.length->Yg s fd ⟨us,[]⟩ (ps.zip (us++ds))
theorem Binds.all {K:RD} {fd:Tp} {ps:List Str} (h:∀ us:List Value,us.length=ps.length->VM fd ⟨us,[]⟩=pure (ps.zip us)):Binds K fd ps []:=fun s us _ hl=>by
 rw[Ss] at hl ⊢
 exact .of_eq (h us hl)
def Passes (CX:CXT) (X:Cx) (E:XK):Prop:=∀ (pins:List (Addr × U3)) (σ:St) (H:Hp) (s:Ra) (e:Value) (s':Ra),Inv X pins σ H s->CX X.stack H s E e s'->X.xe e s'
section
variable {X:Cx} {CX:CXT} {k:Nat} {f C:Addr} {fd:Tp} {ps:List Str} {sp:Sp} {dvs:List V} {ds:List Value} {E:XK} {x m:Str} {p pos apos:Wi} {e o:Expr} {es:List Expr} {ta:TE} {t:TA}
theorem yp {pins:List (Addr × U3)} {σ:St} {H:Hp} {s:Ra} {Q:VK} {us:List Value} {vs:List V} (F:dB X.prog X.w X.K X.mg X.base CX k f fd ps sp) (hr:gB k X.A) (hb:Binds X.K fd ps ds) (hd:Vals dvs ds) (hx:Passes CX X E)
  (I:Inv X pins σ H s) (r:Vals vs us) (h:sp (vs++dvs) H Q E):Rt (Ru X.prog X.w) X.A (call (.ref f) us) (EP X pins σ Q) X.xe s:=by
 have r2:Vals (vs++dvs) (us++ds):=r.append hd
 have hl:(us++ds).length=ps.length:=by rw[← r2.length]; exact F.len _ _ _ _ h
 refine WR (Vl (F.run X.A X.stack s H ⟨us,[]⟩ (us++ds) (vs++dvs) Q E hr I.env0 (hb s us I.kIn hl) r2 h) fun r s' hq=>?_)
 cases r with
 | error e=>exact hx pins σ H s e s' I hq
 | ok fl =>
  cases fl with
  | ret u=>exact I.after hq
  | next=>exact SX hq
  | brk=>exact SX hq
  | cont=>exact SX hq
theorem CV (F:dB X.prog X.w X.K X.mg X.base CX k f fd ps sp) (hr:gB k X.A) (hg:Gl X x) (hm:X.mg x=some (.ref f)) (hk:Ve X.K (.ref f)=true) (hb:Binds X.K fd ps ds) (hd:Vals dvs ds) (hx:Passes CX X E)
  (ha:PA X (e::es) t) (hdb:(x == ("__debug__" : Str))=false:=by decide) (he:R9 (e::es) X.env=(false,UG e X.env)::R9 es X.env:=by rfl) (hpl:(We pos (R9 es X.env)).any (·.1)=false:=by rfl) :
  PE X (.Call (.Name x p) (e::es) [] pos) (yd sp dvs E t):=by
 intro pins s σ H Q I h
 refine Uk (m7 I hg hm ?_ hdb)
 refine Wq (h₀:=X.base) I.ok.mod.kin hk (thn (ha pos pins s σ H _ I h) fun us s1 ⟨vs,H1,I1,r,q⟩=>⟨I1.kIn,?_⟩) he hpl
 exact yp F hr hb hd hx I1 r q
end
section
variable {X:Cx} {CX:CXT} {k:Nat} {f C:Addr} {fd:Tp} {ps ks:List Str} {sp:Sp} {E:XK} {x m:Str} {p pos apos kpos:Wi} {e o:Expr} {es:List Expr} {kws:List Keyword} {te ta:TE} {t tk:TA} {nm:Option Str}
variable {g:List Value->List Value->List Value} {gV:List V->List V->List V}
end
structure aV (N P:List Str) (sc:Va):Prop where
 kind:sc.kind = .function
 co:sc.isCoroutine=false
 gen:sc.isGenerator=false
 nd:N.Nodup
 pre:N.take P.length=P
 par:∀ x∈P,sc.names.lookup x=some .local∨sc.names.lookup x=some .cell
 nofree:∀ y∈sc.names,y.2≠.free
theorem vV {kindOf:Str->Option Xp} {x:Str}:∀ {binds:List (Str × Value)} {m:Str->Option Value},(∀ v,(x,v) ∉ binds)->bindL kindOf binds m x=m x
 | [],_,_=>rfl
 | (n,v)::r,m,h=>by
  unfold bindL
  rw[vV fun w hw=>h w (Ri _ hw)]
  split
  ·have:x≠n:=by rintro rfl; exact h v Rc
   simp [this]
  ·rfl
theorem vX {kindOf:Str->Option Xp} {x:Str}:∀ {binds:List (Str × Value)} {m:Str->Option Value},(∀ v,(x,v) ∉ binds)->bindC kindOf binds m x=m x
 | [],_,_=>rfl
 | (n,v)::r,m,h=>by
  unfold bindC
  rw[vX fun w hw=>h w (Ri _ hw)]
  split
  ·rfl
  ·have:x≠n:=by rintro rfl; exact h v Rc
   simp [this]
theorem vR {kindOf:Str->Option Xp} {x:Str} {v:Value}:∀ {P:List Str} {vs:List Value} {i:Nat} {m:Str->Option Value},P.Nodup->P[i]? = some x->vs[i]? = some v->kindOf x=some .local →
  bindL kindOf (P.zip vs) m x=some v
 | [],_,_,_,_,h,_,_=>by simp at h
 | _::_,[],_,_,_,_,h,_=>by simp at h
 | p::P,w::vs,0,m,nd,h1,h2,hk=>by
  simp at h1 h2; subst h1; subst h2
  show bindL kindOf ((p,w)::P.zip vs) m p=_
  unfold bindL
  rw[vV fun v hv=>(List.nodup_cons.mp nd).1 (Yo hv).1,if_pos hk]
  simp
 | p::P,w::vs,i+1,m,nd,h1,h2,hk=>by
  show bindL kindOf ((p,w)::P.zip vs) m x=_
  unfold bindL
  exact vR (i:=i) (List.nodup_cons.mp nd).2 (by simpa using h1) (by simpa using h2) hk
theorem wH {kindOf:Str->Option Xp} {x:Str} {v:Value}:∀ {P:List Str} {vs:List Value} {i:Nat} {m:Str->Option Value},P.Nodup->P[i]? = some x->vs[i]? = some v->kindOf x≠some .local →
  bindC kindOf (P.zip vs) m x=some v
 | [],_,_,_,_,h,_,_=>by simp at h
 | _::_,[],_,_,_,_,h,_=>by simp at h
 | p::P,w::vs,0,m,nd,h1,h2,hk=>by
  simp at h1 h2; subst h1; subst h2
  show bindC kindOf ((p,w)::P.zip vs) m p=_
  unfold bindC
  rw[vX fun v hv=>(List.nodup_cons.mp nd).1 (Yo hv).1,if_neg hk]
  simp
 | p::P,w::vs,i+1,m,nd,h1,h2,hk=>by
  show bindC kindOf ((p,w)::P.zip vs) m x=_
  unfold bindC
  exact wH (i:=i) (List.nodup_cons.mp nd).2 (by simpa using h1) (by simpa using h2) hk
def start (N:List Str) (vs:List V):St:=vs.map some++Rq (N.length - vs.length) none
def xm (CX:CXT) (P:RV) (w:Sv) (K:RD) (mg:Str->Option Value) (base:Tf) (N:List Str) (qual:Str) (scope:Va) (f:Addr) (cd:Value) (A:Sh) (outer:List WQ) (s:Ra) (H:Hp) (E:XK):Cx where
 prog:=P
 w:=w
 K:=K
 mg:=mg
 base:=base
 A:=A.deeper (envOfC qual scope s.heap.objs.size f cd)
 N:=N
 s₀:=s
 H₀:=H
 env:=envOfC qual scope s.heap.objs.size f cd
 outer:=outer
 stack:=envOfC qual scope s.heap.objs.size f cd::outer
 ex:=[]
 calm:=true
 fn:=fun _=>true
 pn:=[]
 xe:=fun e s'=>Rt (Ru P w) (A.deeper (envOfC qual scope s.heap.objs.size f cd)) (leaving (envOfC qual scope s.heap.objs.size f cd) e) (fun _ s''=>CX outer H s E e s'') (fun e' s''=>CX outer H s E e' s'') s'
theorem yu {sc:Va} {n:Nat} {x:Str} (h:sc.names.lookup x=some .cell):∃ c,(cellsFrom n sc.names []).lookup x=some c:=by
 have q:=PySem.W.cellsFrom_some sc.names n [] (.inl h)
 exact Option.isSome_iff_exists.mp q
theorem wk {CX:CXT} {P:RV} {w:Sv} {K:RD} {mg:Str->Option Value} {base:Tf} {N ps:List Str} {qual:Str} {scope:Va} {f:Addr} {cd:Value} {A:Sh} {outer:List WQ} {s s1:Ra} {H:Hp} {E:XK} {us:List Value} {vs:List V}
  (S:aV N ps scope) (hd:A.handled=none) (e0:Ff P w K mg base A outer s H) (hl:vs.length=ps.length) (r:Vals vs us)
  (x:InCallC s s.heap.objs.size (bindL (envOfC qual scope s.heap.objs.size f cd).kindOf (ps.zip us) fun _=>none) (cellsFrom (s.heap.objs.size+1) scope.names []) (bindC (envOfC qual scope s.heap.objs.size f cd).kindOf (ps.zip us) fun _=>none) s1) :
  Inv (xm CX P w K mg base N qual scope f cd A outer s H E) [] (start N vs) H s1:=by
 have hpl:ps.length<=N.length:=by have:=congrArg ZX S.pre; rw[RN] at this; lia
 obtain⟨h1,tk,rfl,hk⟩:=x.done
 have noA:∀ b:Addr,b ∉ (xm CX P w K mg base N qual scope f cd A outer s H E).ex:=fun b z=>absurd (show b∈([]:List Addr) from z) (by simp)
 refine⟨⟨e0.mod,S.kind,rfl,rfl,Rh _,fun y z c h1 h2=>?_,fun y hy=>?_,fun y c _ h=>?_,fun _=>hd,Around.frames_deeper e0.frames,.inr ⟨rfl,rfl⟩,fun b z=>absurd z (noA b),e0.bs,e0.bsz,fun b _ _=>noA b,fun b z=>absurd z (noA b),e0.rH,e0.frf⟩,
  rfl,e0.bare,Un.kept hk,⟨_,x.toInCall.ns,fun i y v h1 h2 h3=>?_⟩,fun y c h=>⟨_,x.cell y c h⟩,e0.hok.fresh (Rh _),fun y c h=>?_,fun p hp=>absurd (show p∈([]:List (Addr × U3)) from hp) (by simp),e0.hok.kept hk,?_⟩
 ·exact name_of_addr x.apart (Ti h1) (Ti h2)
 ·have hy:scope.names.lookup y=some .cell∨scope.names.lookup y=some .free:=hy
  rcases hy with hy | hy
  ·exact yu hy
  ·exact absurd rfl (S.nofree _ (Ti hy))
 ·exact Vn (x.above y c (Ti h))
 ·have hi:i < vs.length:=by
   unfold start at h2
   by_cases hi:i < vs.length
   ·exact hi
   ·rw[Ua (by simpa using hi)] at h2
    rw[XR] at h2
    split at h2 <;> cases h2
  have ha:vs[i]? = some v:=by
   unfold start at h2
   rw[List.getElem?_append_left (by simpa using hi),Rz] at h2
   cases e:vs[i]? with
   | none=>rw[e] at h2; cases h2
   | some a=>rw[e] at h2; cases h2; rfl
  obtain⟨u,hu,rv⟩:=r.get ha
  have hp:ps[i]? = some y:=by
   rw[← S.pre,List.getElem?_take_of_lt (by lia)]; exact h1
  have ndP:ps.Nodup:=by rw[← S.pre]; exact S.nd.sublist (List.take_sublist _ _)
  refine⟨u,rv,?_⟩
  rcases S.par y (RL hp) with k | k
  ·exact .inl ⟨k,vR ndP hp hu k⟩
  ·obtain⟨c,e⟩:=yu (n:=s.heap.objs.size+1) k
   refine .inr ⟨.inl k,c,e,?_⟩
   have q:=x.cell y c e
   rw[wH ndP hp hu (by show scope.names.lookup y≠_; rw[k]; decide)] at q
   exact q
 ·exact e0.hok.fresh (Vn (x.above y c (Ti h)))
 ·unfold start
  show _=N.length
  rw[Rf,Q8,UJ]
  lia
theorem JC {CX:CXT} {P:RV} {w:Sv} {K:RD} {mg:Str->Option Value} {base:Tf} {k:Nat} {f:Addr} {name qual:Str} {params:YH} {body:List Stmt} {scope:Va} {dV kV doc pm cdv ct oc:Value} {an od:Option Addr}
  {osl:Array (Option Value)} {N ps:List Str} {sp:Sp} (lk:K.lookup f=some ⟨oc,od,.func (Vw name qual params body scope dV kV doc pm an cdv ct),osl⟩) (hcd:WD K cdv qual=true) (S:aV N ps scope)
  (len:∀ vs H Q E,sp vs H Q E->vs.length=ps.length)
  (hbody:∀ (A:Sh) (outer:List WQ) (s:Ra) (H:Hp) (vs:List V) (Q:VK) (E:XK),gB k (A.deeper (envOfC qual scope s.heap.objs.size f cdv))->sp vs H Q E →
   ∃ t,PSs (xm CX P w K mg base N qual scope f cdv A outer s H E) body t/\t { nx:=fun _ H'=>Q .non H',rt:=Q } (start N vs) H) :
  dB P w K mg base CX (k+1) f (Vw name qual params body scope dV kV doc pm an cdv ct) ps sp:=by
 refine⟨len,fun A outer s H args us vs Q E hr e0 hb r hsp=>?_⟩
 have hl:=len _ _ _ _ hsp
 have KX:K.In s.heap:=e0.mod.kin.keeps fun b o e=>(e0.bs b o e).1
 have lim:s.heap.NoLimit:=e0.mod.nolimit.keeps fun b o e=>(e0.bs b o e).1
 have hkind:∀ y∈ps.zip us,scope.names.lookup y.1=some .local∨(scope.names.lookup y.1=some .cell/\((cellsFrom (s.heap.objs.size+1) scope.names []).lookup y.1).isSome=true):=fun⟨n,v⟩ hy=>by
  rcases S.par n (Yo hy).1 with q | q
  ·exact .inl q
  ·exact .inr ⟨q,PySem.W.cellsFrom_some _ _ _ (.inl q)⟩
 refine codeAny_call_function hr.depth (KX _ _ lk) rfl S.co S.gen rfl (PySem.W.codeRec_of KX hcd) (hb _ _ _ _ ?_)
 refine wpAny_newFunctionEnv_cells S.kind hkind fun env he s1 x=>?_
 subst he
 refine⟨lim.keeps x.toInCall.keep,codeAny_func ?_⟩
 obtain⟨t,ht,hq⟩:=hbody A outer s H vs Q E (hr.deeper _) hsp
 have I:Inv (xm CX P w K mg base N qual scope f cdv A outer s H E) [] (start N vs) H s1:=wk S hr.hd e0 hl r x
 refine Su (ht [] s1 (start N vs) H _ I hq) (fun fl s' hs=>?_) fun e s' hs=>hs
 have fin:∀ {σ':St} {H':Hp} {v:V} {u:Value},Inv (xm CX P w K mg base N qual scope f cdv A outer s H E) [] σ' H' s'->RelV v u->Q v H'->CE outer P w H s Q u s' :=
  fun {σ' H' v u} J rv q=>⟨v,H',J.os,J.bare,J.base,J.hok,rv,q⟩
 cases fl with
 | ret u =>
  obtain⟨v,σ',H',J,rv,q⟩:=hs
  exact fin J rv q
 | next =>
  obtain⟨σ',H',J,q⟩:=hs
  exact fin (v:=V.non) (u:=SQ) J rfl q
 | brk =>
  obtain⟨_,_,_,q⟩:=hs
  exact SX q
 | cont =>
  obtain⟨_,_,_,q⟩:=hs
  exact SX q
end L2
namespace L2
open PySem PySem.Spec PyProof.Rows
section
variable {X:Cx} {x:Str} {p pos:Wi} {e:Expr} {es:List Expr} {t:TA} {id T:String} {r:List V->Hp->VK->Prop}
def tCB (r:List V->Hp->VK->Prop) (t:TA):TE:=fun σ H Q=>t σ H fun vs H1=>r vs H1 Q
theorem aG (hc:je X (.builtin id) r) (hg:Gl X x) (hm:X.mg x=none) (hv:Tj x=some (.builtin id)) (ha:PA X (e::es) t) (hn:x≠"__name__":=by decide) (hdb:(x == ("__debug__" : Str))=false:=by decide)
  (he:R9 (e::es) X.env=(false,UG e X.env)::R9 es X.env:=by rfl) (hpl:(We pos (R9 es X.env)).any (·.1)=false:=by rfl):PE X (.Call (.Name x p) (e::es) [] pos) (tCB r t):=by
 intro pins s σ H Q I h
 refine Uk (lW I hg hm hv ?_ hn hdb)
 exact ZL (thn (ha pos pins s σ H _ I h) fun us s1 ⟨vs,H1,I1,r1,q1⟩=>hc pins s1 σ H1 vs us Q I1 r1 q1) he hpl
theorem aX (hc:je X (.type T) r) (hg:Gl X x) (hm:X.mg x=none) (hv:Tj x=some (.type T)) (ha:PA X (e::es) t) (hn:x≠"__name__":=by decide) (hdb:(x == ("__debug__" : Str))=false:=by decide)
  (he:R9 (e::es) X.env=(false,UG e X.env)::R9 es X.env:=by rfl) (hpl:(We pos (R9 es X.env)).any (·.1)=false:=by rfl):PE X (.Call (.Name x p) (e::es) [] pos) (tCB r t):=by
 intro pins s σ H Q I h
 refine Uk (lW I hg hm hv ?_ hn hdb)
 exact Vc (thn (ha pos pins s σ H _ I h) fun us s1 ⟨vs,H1,I1,r1,q1⟩=>hc pins s1 σ H1 vs us Q I1 r1 q1) he hpl
end
end L2
namespace HT
open PySem PyProof.Rows
section
open PySem.SeqAt
open PySem.AutoSeq1 (wpAny_loadPart')
open PySem.MeetsSeq PySem.MeetsSeq2 PySem.MeetsSeq3
end
section
variable {prog:RV} {w:Sv} {A:Sh} {E:Value->Ra->Prop} {s:Ra}
theorem J2 {t b:Addr} {vs ws:List Value} {Q:Value->Ra->Prop} (ht:IsTup s.heap t vs.toArray) (hb:IsTup s.heap b ws.toArray) (hv:vs≠[])
  (h1:ws=[]->Q (.ref t) s) (h2:ws≠[]->Q (.ref s.heap.objs.size) { s with heap:=s.heap.push { cls:=.type "tuple",data:=.seq (vs++ws).toArray } })
  (hsz:vs.length+ws.length<=sizeLine):Rt (Ru prog w) A (VB .Add (.ref t) (.ref b)) Q E s:=by
 obtain⟨⟨cls,dd,data,sl⟩,ho,hc,n,hd⟩:=id ht
 obtain⟨⟨cls2,dd2,data2,sl2⟩,ho2,hc2,n2,hd2⟩:=id hb
 simp only at hc hd hc2 hd2
 subst hc hd hc2 hd2
 have e:vs.toArray++ws.toArray=(vs++ws).toArray:=by simp
 by_cases hw:ws=[]
 ·exact concat_meets ⟨_,ho,rfl⟩ ⟨_,ho2,rfl⟩ ZG seq_tuple_add X6 XN (XF _ _)
   (tuple_addW1 t b vs.toArray ws.toArray n n2 dd dd2 sl sl2 (by simpa using hv) (by simp [hw])) ⟨ho,ho2,h1 hw⟩
 ·refine concat_meets ⟨_,ho,rfl⟩ ⟨_,ho2,rfl⟩ ZG seq_tuple_add X6 XN (XF _ _)
   (tuple_addW2 t b vs.toArray ws.toArray n n2 dd dd2 sl sl2 (by simpa using hv) (by simpa using hw) (by rw[Ry,Ry]; exact hsz)) ⟨ho,ho2,?_⟩
  rw[e]
  exact h2 hw
def sIx (n d:Nat):Option Int->Nat
 | none=>d
 | some v=>if v < 0 then (v+(n:Int)).toNat else min v.toNat n
theorem LQ (n d:Nat) (hd:d<=n) (o:Option Int):sIx n d o<=n:=by
 cases o with
 | none=>exact hd
 | some v =>
  show (if v < 0 then (v+(n:Int)).toNat else min v.toNat n)<=n
  by_cases hv:v < 0
  ·rw[if_pos hv]; lia
  ·rw[if_neg hv]; exact Nat.min_le_right _ _
theorem Dc (v:Int) (n d:Nat):(if v < 0 then max (v+(n:Int)) 0 else min v (n:Int))=((sIx n d (some v):Nat):Int):=by
 show (if v < 0 then max (v+(n:Int)) 0 else min v (n:Int))=(((if v < 0 then (v+(n:Int)).toNat else min v.toNat n):Nat):Int)
 by_cases hv:v < 0
 ·simp only[if_pos hv]; lia
 ·simp only[if_neg hv]; lia
theorem z6 (lo hi:Option Int) (n:Nat):Xq lo hi 1 (n:Int)=(((sIx n 0 lo:Nat):Int),((sIx n n hi:Nat):Int)):=by
 have h1:¬ ((1:Int) < 0):=by lia
 unfold Xq
 simp only[h1,if_false]
 refine Prod.ext ?_ ?_
 ·cases lo with
  | none=>rfl
  | some v=>exact Dc v n 0
 ·cases hi with
  | none=>rfl
  | some v=>exact Dc v n n
theorem zO (i j:Nat):Wd (i:Int) (j:Int) 1=j - i:=by
 unfold Wd
 have h1:(1:Int) > 0:=by lia
 simp only[h1,if_true,Int.ediv_one]
 split <;> lia
theorem sJ {v:Value} {o:Option Int} {Q:Option Int->Ra->Prop} (p:ZP v o) (h:Q o s):Rt (Ru prog w) A (Builtin.Slice.slicePartIndex v) Q E s:=by
 cases p with
 | none=>exact slicePart_none h
 | int i t=>exact slicePart_int h
theorem oK {sl:Addr} {vl vu:Value} {lo hi:Option Int} {n:Nat} {Q:Int × Int × Nat->Ra->Prop} (hs:s.heap.IsSliceOf sl vl vu .none) (pl:ZP vl lo) (pu:ZP vu hi)
  (h:Q (((sIx n 0 lo:Nat):Int),1,sIx n n hi - sIx n 0 lo) s):Rt (Ru prog w) A (Builtin.Slice.sliceApplied (.ref sl) (pure (n:Int))) Q E s:=by
 obtain⟨os,hos,hcs,hds⟩:=id hs
 unfold Builtin.Slice.sliceApplied Builtin.Slice.sliceFields
 refine Q9 (Q9 (U0 hos hds (x:=vl) rfl (Q9 (U0 hos hds (x:=vu) rfl (Q9 (U0 hos hds (x:=.none) rfl (Rj ?_)))))))
 refine Q9 (slicePart_none ?_)
 show Rt _ _ (if ((1:Int) == 0)=true then _ else _) _ _ s
 rw[if_neg (by decide)]
 refine Q9 (sJ pl (Q9 (sJ pu (Q9 (Rj ?_)))))
 show Rt _ _ (match Xq lo hi 1 (n:Int) with | (lo,hi)=>pure (lo,(1:Int),Wd lo hi 1)) _ _ s
 rw[z6 lo hi n]
 show Rt _ _ (pure (((sIx n 0 lo:Nat):Int),(1:Int),Wd ((sIx n 0 lo:Nat):Int) ((sIx n n hi:Nat):Int) 1)) _ _ s
 rw[zO]
 exact Rj h
theorem Fy (xs:Array Value) (i k:Nat):((Uc k).filterMap fun (m:Nat)=>xs[((i:Int)+(m:Int) * 1).toNat]?).toArray=((xs.toList.drop i).take k).toArray:=by
 have e:(fun (m:Nat)=>xs[((i:Int)+(m:Int) * 1).toNat]?)=fun m=>xs[i+m]?:=by
  funext m
  have:((i:Int)+(m:Int) * 1).toNat=i+m:=by lia
  rw[this]
 rw[e]
 have:=pick_run xs i k
 rw[List.filterMap_map] at this
 have e2:((fun x=>xs[x]?) ∘ fun x=>i+x)=fun m=>xs[i+m]?:=rfl
 rw[e2] at this
 rw[this]
theorem nC {t sl:Addr} {items:Array Value} {vl vu:Value} {lo hi:Option Int} {Q:Value->Ra->Prop} (ht:IsTup s.heap t items) (hs:s.heap.IsSliceOf sl vl vu .none) (pl:ZP vl lo) (pu:ZP vu hi)
  (hw:¬ (sIx items.size 0 lo=0/\sIx items.size items.size hi=items.size))
  (h:Q (.ref s.heap.objs.size) { s with heap:=s.heap.push { cls:=.type "tuple",data:=.seq ((items.toList.drop (sIx items.size 0 lo)).take (sIx items.size items.size hi - sIx items.size 0 lo)).toArray } })
  (hsz:items.size<=sizeLine):Rt (Ru prog w) A (getItem (.ref t) (.ref sl)) Q E s:=by
 have htake:sizeOk (.seq ((items.toList.drop (sIx items.size 0 lo)).take (sIx items.size items.size hi - sIx items.size 0 lo)).toArray):=by
  show ((items.toList.drop (sIx items.size 0 lo)).take (sIx items.size items.size hi - sIx items.size 0 lo)).toArray.size<=sizeLine
  rw[Ry,RN,T8,Tt]
  lia
 have hj:sIx items.size items.size hi<=items.size:=LQ _ _ (Rh _) hi
 obtain⟨os,hos,hcs,hds⟩:=id hs
 have hTs:s.TypeIs (.ref sl) "slice":=⟨os,hos,hcs⟩
 unfold getItem
 try with_reducible refine Ug ?_
 first | refine Q9 (Rj ?_) | skip
 refine Q9 (wpAny_sequenceKey ht.typeIs (by decide) ?_)
 refine Q9 (Wx (name:=X4 "__getitem__") ht.typeIs Zz
  (Vr Zz ht.typeIs entry_tuple_getitem ?_ (args_tuple_getitem _ _)))
 show Rt _ _ (Builtin.Tuple.tupleItemsOf (.ref t) >>= _) _ _ s
 refine Q9 (tupleItemsOf_ ht ?_)
 refine Q9 (wpAny_typeOf hTs ?_)
 rw[if_pos (by decide)]
 refine Q9 (oK hs pl pu ?_)
 have hno:¬ ((((sIx items.size 0 lo:Nat):Int) == 0 && (1:Int) == 1 && (sIx items.size items.size hi - sIx items.size 0 lo) == items.size)=true):=by
  intro q
  rw[Rp,Rp] at q
  have q1:((sIx items.size 0 lo:Nat):Int)=0:=eq_of_beq q.1.1
  have q2:sIx items.size items.size hi - sIx items.size 0 lo=items.size:=eq_of_beq q.2
  exact hw ⟨by lia,by lia⟩
 show Rt _ _ (if (((sIx items.size 0 lo:Nat):Int) == 0 && (1:Int) == 1 && (sIx items.size items.size hi - sIx items.size 0 lo) == items.size)=true then _ else _) _ _ s
 rw[if_neg hno,Fy]
 first
  | exact Q9 (m:=Wm _) (SN (Rj ⟨_,rfl,Rj h⟩) htake)
  | exact Q9 (m:=Wm _) (SN (Q9 (Rj (Rj ⟨_,rfl,Rj h⟩))) htake)
  | exact Q9 (Q9 (m:=Wm _) (SN (Rj (Rj ⟨_,rfl,Rj h⟩)) htake))
  | exact Q9 (Q9 (m:=Wm _) (SN (Rj ⟨_,rfl,Rj h⟩) htake))
end
end HT
namespace L2
open PySem PySem.Spec PyProof.Rows
abbrev TO:=St->Hp->(Option Int->Hp->Prop)->Prop
def PO (X:Cx) (e:Option Expr) (t:TO):Prop :=
 ∀ (pins:List (Addr × U3)) (s:Ra) (σ:St) (H:Hp) (Q:Option Int->Hp->Prop),Inv X pins σ H s->t σ H Q →
  Rt (Ru X.prog X.w) X.A (evalPart e X.env) (fun u s'=>∃ o H',Inv X pins σ H' s'/\ZP u o/\Q o H') X.xe s
def um:TO:=fun _ H Q=>Q none H
def Jd (t:TE):TO:=fun σ H Q=>t σ H fun x H1=>∃ i,x = .int i/\Q (some i) H1
theorem intsAre_of {ns:List Int}:∀ {us:List Value},Vals (ns.map V.int) us->Ue us ns:=by
 induction ns with
 | nil=>intro us r; rw[List.map_nil] at r; cases r; exact .nil
 | cons n ns ih =>
  intro us r
  rw[Tv] at r
  cases r with
  | cons r1 r2 =>
   obtain⟨t,e⟩:=r1
   subst e
   exact .cons n t (ih r2)
section
variable {X:Cx} {e:Expr} {te:TE} {lo hi:Option Expr} {tl th:TO} {pos p2:Wi}
theorem cQ:PO X none um:=by
 intro pins s σ H Q I h
 rw[evalPart_none]
 exact Rj ⟨none,H,I,.none,h⟩
theorem bQ (h:PE X e te):PO X (some e) (Jd te):=by
 intro pins s σ H Q I hw
 rw[evalPart_some]
 refine thn (h pins s σ H _ I hw) fun u s1 ⟨x,H1,I1,r1,q1⟩=>?_
 obtain⟨i,rfl,q⟩:=q1
 obtain⟨t,rfl⟩:=r1
 exact⟨some i,H1,I1,.int i t,q⟩
def SlR (X:Cx) (r:V->Option Int->Option Int->Hp->VK->Prop):Prop :=
 ∀ (pins:List (Addr × U3)) (s:Ra) (σ:St) (H:Hp) (x:V) (v vl vu:Value) (lo hi:Option Int) (sl:Addr) (Q:VK),Inv X pins σ H s->RelV x v->s.heap.IsSliceOf sl vl vu .none->ZP vl lo->ZP vu hi->r x lo hi H Q →
  ∃ T id,Y5 (.type T) "__getitem__" = pure (some (.builtin id))/\s.TypeIs v T/\Rt (Ru X.prog X.w) X.A (getItem v (.ref sl)) (EP X pins σ Q) X.xe s
def tSl (r:V->Option Int->Option Int->Hp->VK->Prop) (te:TE) (tl th:TO):TE:=fun σ H Q=>te σ H fun x H1=>tl σ H1 fun l H2=>th σ H2 fun u H3=>r x l u H3 Q
theorem bI {r:V->Option Int->Option Int->Hp->VK->Prop} (hr:SlR X r) (he:PE X e te) (hl:PO X lo tl) (hu:PO X hi th):PE X (.Subscript e (.Slice lo hi none p2) pos) (tSl r te tl th):=by
 intro pins s σ H Q I h
 refine Subscript_ (thn (he pins s σ H _ I h) fun v s1 ⟨x,H1,I1,r1,q1⟩=>?_)
 refine wpAny_Slice (thn (hl pins s1 σ H1 _ I1 q1) fun vl s2 ⟨l,H2,I2,pl,q2⟩=>thn (hu pins s2 σ H2 _ I2 q2) fun vu s3 ⟨u,H3,I3,pu,q3⟩=>?_)
 rw[evalPart_none]
 refine Rj ?_
 have I4:Inv X pins σ H3 { s3 with heap:=s3.heap.push { cls:=.type "slice",data:=.fields #[vl,vu,.none] } }:=I3.kept (t':=s3.toks) fun b ob q=>Rb _ q
 obtain⟨T,id,hT,ht,hg⟩:=hr pins { s3 with heap:=s3.heap.push { cls:=.type "slice",data:=.fields #[vl,vu,.none] } } σ H3 x v vl vu l u s3.heap.objs.size Q I4 r1 (Heap.IsSliceOf.new ..) pl pu q3
 show Rt (Ru X.prog X.w) X.A (subscriptTail e (.Slice lo hi none p2) v (.ref s3.heap.objs.size)) (EP X pins σ Q) X.xe { s3 with heap:=s3.heap.push { cls:=.type "slice",data:=.fields #[vl,vu,.none] } }
 exact tail_any (ops:=[.ref s3.heap.objs.size,v]) ht hT hg (by with_unfolding_all rfl)
def Fj (xs:List V) (lo hi:Option Int):List V:=(xs.drop (HT.sIx xs.length 0 lo)).take (HT.sIx xs.length xs.length hi - HT.sIx xs.length 0 lo)
theorem qZ (xs:List V) (lo hi:Option Int):(Fj xs lo hi).length<=xs.length:=by
 unfold Fj
 rw[RN,T8]
 lia
def Ql (K:RD):V->Option Int->Option Int->Hp->VK->Prop:=fun x lo hi H Q=>∃ a xs,x = .ref a/\SqT K H a xs ∧
 ¬ (HT.sIx xs.length 0 lo=0/\HT.sIx xs.length xs.length hi=xs.length)/\∀ p,H p=none->Q (.ref p) (upd H p (.tup (Fj xs lo hi)))
theorem Ly:SlR X (Ql X.K):=by
 intro pins s σ H x v vl vu lo hi sl Q I rx hs pl pu h
 obtain⟨a,xs,rfl,hx,hw,q⟩:=h
 cases rx
 obtain⟨its,r,ht,hz⟩:=I.tuple hx
 have hlen:its.toArray.size=xs.length:=by rw[Ry]; exact r.length.symm
 refine⟨"tuple",_,PyProof.Rows.slot_tuple_getitem.lookup,ht.typeIs,?_⟩
 refine HT.nC ht hs pl pu (by rw[hlen]; exact hw) ?_ (by rw[hlen]; exact hz)
 rw[hlen]
 refine⟨.ref s.heap.objs.size,_,I.laid (t':=s.toks) (o:=.tup (Fj xs lo hi)) (fun b ob q=>Rb _ q) (Rh _) ?_,rfl,q _ (I.hok.fresh (Rh _))⟩
 exact⟨RP (qZ xs lo hi) hz,_,(r.drop (HT.sIx xs.length 0 lo)).take (HT.sIx xs.length xs.length hi - HT.sIx xs.length 0 lo),IsTup.new _ _⟩
def PX (K:RD):R2:=fun x y H Q=>∃ a b xs ys,x = .ref a/\y = .ref b/\SqT K H a xs/\SqT K H b ys/\xs≠[]/\xs.length+ys.length<=sizeLine ∧
 (ys=[]->Q (.ref a) H)/\(ys≠[]->∀ p,H p=none->Q (.ref p) (upd H p (.tup (xs++ys))))
theorem Vals.xN {xs:List V} {us:List Value} (r:Vals xs us):us=[] ↔ xs=[]:=by
 cases r with
 | nil=>simp
 | cons _ _=>simp
theorem JZ:OpR X (VB .Add) (PX X.K):=by
 intro pins s σ H x y v u Q I rx ry h
 obtain⟨a,b,xs,ys,rfl,rfl,ha,hb,hx,hz,q1,q2⟩:=h
 cases rx
 cases ry
 obtain⟨its,r1,p1,_⟩:=I.tuple ha
 obtain⟨its2,r2,p2,_⟩:=I.tuple hb
 refine HT.J2 p1 p2 (fun z=>hx (r1.xN.mp z)) (fun z=>⟨.ref a,H,I,rfl,q1 (r2.xN.mp z)⟩) (fun z=>?_) (by rw[← r1.length,← r2.length]; exact hz)
 refine⟨.ref s.heap.objs.size,_,I.laid (t':=s.toks) (o:=.tup (xs++ys)) (fun b ob q=>Rb _ q) (Rh _) ?_,rfl,q2 (fun w=>z (r2.xN.mpr w)) _ (I.hok.fresh (Rh _))⟩
 exact⟨by rw[Rf]; exact hz,_,r1.append r2,IsTup.new _ _⟩
end
end L2
namespace L2
open PySem PySem.Spec PyProof.Rows
def ixN (n:Nat) (i:Int):Option Nat:=if 0<=i then (if i < n then some i.toNat else none) else if -(n:Int)<=i then some (i+n).toNat else none
def atI {α:Type} (xs:List α) (i:Int):Option α:=(ixN xs.length i).bind fun j=>xs[j]?
theorem Ec {n:Nat} {i:Int} {j:Nat} (h:ixN n i=some j):seqIndex? i n=some j/\j < n/\-(n:Int)<=i/\i < n:=by
 unfold ixN at h
 by_cases h0:0<=i
 ·rw[if_pos h0] at h
  by_cases h1:i < n
  ·rw[if_pos h1] at h
   have e:i.toNat=j:=RQ h
   exact⟨by rw[seqIndex_of h0 h1,e],by lia,by lia,h1⟩
  ·rw[if_neg h1] at h; cases h
 ·rw[if_neg h0] at h
  by_cases h1 : -(n:Int)<=i
  ·rw[if_pos h1] at h
   have e:(i+n).toNat=j:=RQ h
   exact⟨by rw[seqIndex_neg (by lia) h1,e],by lia,h1,by lia⟩
  ·rw[if_neg h1] at h; cases h
theorem xF {α:Type} {xs:List α} {i:Int} {v:α} (h:atI xs i=some v):∃ j,seqIndex? i xs.length=some j/\xs[j]? = some v/\j < xs.length/\-(xs.length:Int)<=i/\i < xs.length:=by
 unfold atI at h
 cases e:ixN xs.length i with
 | none=>rw[e] at h; cases h
 | some j =>
  rw[e] at h
  obtain⟨h1,h2,h3,h4⟩:=Ec e
  exact⟨j,h1,h,h2,h3,h4⟩
theorem iI {α:Type} {xs:List α} {j:Nat} {v:α} (h:xs[j]? = some v):atI xs (j:Int)=some v:=by
 have hj:j < xs.length:=(List.getElem?_eq_some_iff.mp h).1
 have e:ixN xs.length (j:Int)=some j:=by
  unfold ixN
  rw[if_pos (by lia),if_pos (by lia)]; simp
 unfold atI; rw[e]; exact h
theorem Hk {α:Type} (xs:List α) (v:α):atI (xs++[v]) (-1)=some v:=by
 have hl:(xs++[v]).length=xs.length+1:=by simp
 have e:ixN (xs++[v]).length (-1)=some xs.length:=by
  unfold ixN
  rw[hl,if_neg (by decide),if_pos (by lia)]
  congr 1
  lia
 unfold atI
 rw[e]
 show (xs++[v])[xs.length]? = some v
 simp
def IW (b:Expr):Prop:=∀ o i,subscripted b false o i=operate [o,i] (getItem o i)
def IxR (X:Cx) (r:R2):Prop :=
 ∀ (value slice:Expr) (pins:List (Addr × U3)) (s:Ra) (σ:St) (H:Hp) (x y:V) (v u:Value) (Q:VK),Inv X pins σ H s->RelV x v->RelV y u->r x y H Q →
  subscripted slice false v u=operate [v,u] (getItem v u)->Rt (Ru X.prog X.w) X.A (subscriptTail value slice v u) (EP X pins σ Q) X.xe s
def MtR (X:Cx) (id:String) (r:V->List V->Hp->VK->Prop):Prop :=
 ∀ (pins:List (Addr × U3)) (s:Ra) (σ:St) (H:Hp) (x:V) (xs:List V) (v:Value) (us:List Value) (Q:VK),Inv X pins σ H s->RelV x v->Vals xs us->r x xs H Q →
  Rt (Ru X.prog X.w) X.A (call (.builtin id) (v::us)) (EP X pins σ Q) X.xe s
section
variable {X:Cx} {a b:Expr} {ta tb:TE} {pos:Wi}
theorem IxR.or {r r':R2} (h:IxR X r) (h':IxR X r'):IxR X (fun x y H Q=>r x y H Q∨r' x y H Q):=by
 intro value slice pins s σ H x y v u Q I rx ry q hs
 rcases q with q | q
 ·exact h value slice pins s σ H x y v u Q I rx ry q hs
 ·exact h' value slice pins s σ H x y v u Q I rx ry q hs
theorem aQ {r:R2} (hr:IxR X r) (ha:PE X a ta) (hb:PE X b tb) (hs:IW b):PE X (.Subscript a b pos) (tOp r ta tb):=by
 intro pins s σ H Q I h
 exact Subscript_ (Oz ha hb I h fun v u s2 x y H2 I2 rx ry q=>hr a b pins s2 σ H2 x y v u Q I2 rx ry q (hs _ _))
def d8 (K:RD):R2:=fun x y H Q=>∃ p xs i v,x = .ref p/\y = .int i/\SqL K H p xs/\atI xs i=some v/\Q v H
def jd (K:RD):R2:=fun x y H Q=>∃ p xs i v,x = .ref p/\y = .int i/\SqT K H p xs/\atI xs i=some v/\Q v H
def K8:R2:=fun x y H Q=>∃ z i c,x = .str z/\y = .int i/\z.length<=sizeLine/\atI z.cps.toList i=some c/\Q (.str ⟨#[c]⟩) H
theorem aO:IxR X (d8 X.K):=by
 intro value slice pins s σ H x y v u Q I rx ry h hs
 obtain⟨p,xs,i,z,rfl,rfl,hq,he,q⟩:=h
 cases rx
 obtain⟨t,rfl⟩:=ry
 obtain⟨its,r,pl,hz⟩:=I.list hq
 obtain⟨j,h1,h2,h3,h4,h5⟩:=xF he
 obtain⟨w,ew,rw'⟩:=r.get h2
 have hl:=r.length
 have hn:=rP
 have fin:EP X pins σ Q w s:=⟨z,H,I,rw',q⟩
 by_cases h0:0<=i
 ·have hj:i.toNat=j:=by
   rw[seqIndex_of h0 h5] at h1
   exact RQ h1
  exact item_listR pl.isList h0 (by lia) (by rw[hj]; simpa using ew) fin hs
 ·have hj:(i+(its.toArray.size:Int)).toNat=j:=by
   rw[seqIndex_neg (by lia) h4] at h1
   rw[Ry,← hl]
   exact RQ h1
  exact subscriptTail_builtinR (x:=w) pl.isList.typeIs slot_list_getitem.lookup
   (wpAny_getItem_list_neg (Q:=fun r s'=>r=w/\EP X pins σ Q r s') pl.isList (by lia) (by rw[Ry] <;> lia) (by lia) (by rw[hj]; simpa using ew) ⟨rfl,fin⟩) hs
theorem bH:IxR X (jd X.K):=by
 intro value slice pins s σ H x y v u Q I rx ry h hs
 obtain⟨p,xs,i,z,rfl,rfl,hq,he,q⟩:=h
 cases rx
 obtain⟨t,rfl⟩:=ry
 obtain⟨its,r,pl,hz⟩:=I.tuple hq
 obtain⟨j,h1,h2,h3,h4,h5⟩:=xF he
 obtain⟨w,ew,rw'⟩:=r.get h2
 have hl:=r.length
 have hn:=rP
 have fin:EP X pins σ Q w s:=⟨z,H,I,rw',q⟩
 exact subscriptTail_builtinR (x:=w) pl.typeIs slot_tuple_getitem.lookup
  (getItem_tuple (j:=j) (Q:=fun r s'=>r=w/\EP X pins σ Q r s') pl (by lia) (by lia) (by rw[Ry,← hl]; exact h1) (by simpa using ew) ⟨rfl,fin⟩) hs
theorem yN:IxR X K8:=by
 intro value slice pins s σ H x y v u Q I rx ry h hs
 obtain⟨z,i,c,rfl,rfl,hz,he,q⟩:=h
 obtain⟨t,rfl⟩:=rx
 obtain⟨t',rfl⟩:=ry
 obtain⟨j,h1,h2,h3,h4,h5⟩:=xF he
 have hl:z.cps.toList.length=z.length:=by simp [Str.length]
 rw[hl] at h1 h4 h5
 have hn:=rP
 exact tail_any (WT s z t) slot_str_getitem.lookup (getItem_str (c:=c) (by
  have e1:decide (i < -(2 ^ 63:Int))=false:=decide_eq_false (by lia)
  have e2:decide (i ≥ 2 ^ 63)=false:=decide_eq_false (by lia)
  rw[e1,e2,Bool.or_false]) (by rw[h1]; simpa using h2) ⟨.str ⟨#[c]⟩,H,I.tok _,⟨_,rfl⟩,q⟩) hs
def rIx (K:RD):R2:=fun x y H Q=>d8 K x y H Q∨jd K x y H Q∨K8 x y H Q
theorem Ij:IxR X (rIx X.K):=aO.or (bH.or yN)
theorem z9 (its:List Value) (n j:Nat) (u:Value):Ws (·.setIfInBounds j u) { cls:=.type "list",data:=.seq its.toArray n }={ cls:=.type "list",data:=.seq (its.set j u).toArray n }:=by
 simp [Ws]
theorem Inv.lst {pins:List (Addr × U3)} {σ:St} {H:Hp} {s:Ra} {p:Addr} {xs:List V} (I:Inv X pins σ H s) (h:H p=some (.lst xs)) :
  ∃ (its:List Value) (n:Nat),Vals xs its/\s.heap.get? p=some { cls:=.type "list",data:=.seq its.toArray n }/\xs.length<=sizeLine:=by
 obtain⟨z,its,n,r,e⟩:=I.hok p _ h
 exact⟨its,n,r,e,z⟩
theorem Inv.LR {pins:List (Addr × U3)} {σ:St} {H:Hp} {s:Ra} {p:Addr} {xs ys:List V} {its its':List Value} {n n':Nat} {f:U3->U3} (I:Inv X pins σ H s) (h:H p=some (.lst xs))
  (ho:s.heap.get? p=some { cls:=.type "list",data:=.seq its.toArray n }) (hf:f { cls:=.type "list",data:=.seq its.toArray n }={ cls:=.type "list",data:=.seq its'.toArray n' }) (r:Vals ys its') (hz:ys.length<=sizeLine) (t:Nat) :
  Inv X pins σ (upd H p (.lst ys)) { s with heap:=s.heap.update p f,toks:=t }:=by
 have e:(s.heap.update p f).get? p=some { cls:=.type "list",data:=.seq its'.toArray n' }:=by
  rw[R4 f ho (by rw[hf] <;> rfl),hf]
 refine I.write (x:=p) (e:=p) (by rw[h]; trivial) (.inl rfl) (fun b u hb q=>(R8 _ _ (Tw hb)).trans q) ⟨_,e⟩ ?_
 exact⟨hz,its',n',r,e⟩
def Pg:V->V->V->Hp->(Hp->Prop)->Prop:=fun o i v H Q=>∃ p xs k j,o = .ref p/\i = .int k/\H p=some (.lst xs)/\ixN xs.length k=some j/\Q (upd H p (.lst (xs.set j v)))
theorem set_list:Qi X Pg:=by
 intro pins s σ H o i v ov iv u Q I ro ri rv h
 obtain⟨p,xs,k,j,rfl,rfl,hp,hj,q⟩:=h
 cases ro
 obtain⟨t,rfl⟩:=ri
 obtain⟨its,n,r,ho,hz⟩:=I.lst hp
 obtain⟨h1,h2,h3,h4⟩:=Ec hj
 have hl:=r.length
 have hn:=rP
 have I':Inv X pins σ (upd H p (.lst (xs.set j v))) { s with heap:=s.heap.update p (Ws (·.setIfInBounds j u)) } :=
  I.LR hp ho (z9 its n j u) (r.set rv j) (by rw[List.length_set]; exact hz) s.toks
 by_cases h0:0<=k
 ·have hk:k.toNat=j:=by
   rw[seqIndex_of h0 h4] at h1
   exact RQ h1
  exact PySem.W.ki_setAt ho h0 (by lia) (by rw[Ry,← hl]; exact h4) (by rw[hk]; exact⟨_,I',q⟩)
 ·have hk:(k+(its.toArray.size:Int)).toNat=j:=by
   rw[seqIndex_neg (by lia) h3] at h1
   rw[Ry,← hl]
   exact RQ h1
  exact PySem.W.ki_setBack ho (by lia) (by rw[Ry,← hl]; exact h3) (by lia) (by rw[hk]; exact⟨_,I',q⟩)
theorem uZ (lo hi:Option Int) (n:Nat):(Xb lo hi none n).1=((HT.sIx n 0 lo:Nat):Int)/\(Xb lo hi none n).2.1=((HT.sIx n n hi:Nat):Int)/\(Xb lo hi none n).2.2=1:=by
 refine⟨?_,?_,rfl⟩
 ·cases lo with
  | none=>simp [Xb,HT.sIx]
  | some i =>
   simp only[Xb,HT.sIx,Option.getD_none,show (1:Int) > 0 by decide,if_true]
   by_cases h:i < 0
   ·simp only[h,if_true] <;> lia
   ·simp only[h,if_false] <;> lia
 ·cases hi with
  | none=>simp [Xb,HT.sIx]
  | some i =>
   simp only[Xb,HT.sIx,Option.getD_none,show (1:Int) > 0 by decide,if_true]
   by_cases h:i < 0
   ·simp only[h,if_true] <;> lia
   ·simp only[h,if_false] <;> lia
theorem ue (its:List Value) (lo hi:Option Int):slicePick its.toArray lo hi none=((its.drop (HT.sIx its.length 0 lo)).take (HT.sIx its.length its.length hi - HT.sIx its.length 0 lo)).toArray:=by
 obtain⟨h1,h2,h3⟩:=uZ lo hi its.toArray.size
 unfold slicePick
 rw[h1,h2,h3]
 simp only[sliceRange_one,pick_run,Ry] <;> rfl
def Qo (K:RD):V->Option Int->Option Int->Hp->VK->Prop:=fun x lo hi H Q=>∃ a xs,x = .ref a/\SqL K H a xs/\∀ p,H p=none->Q (.ref p) (upd H p (.lst (Fj xs lo hi)))
theorem JL:SlR X (Qo X.K):=by
 intro pins s σ H x v vl vu lo hi sl Q I rx hs pl pu h
 obtain⟨a,xs,rfl,hx,q⟩:=h
 cases rx
 obtain⟨its,r,ht,hz⟩:=I.list hx
 have hlen:=r.length
 refine⟨"list",_,slot_list_getitem.lookup,ht.isList.typeIs,?_⟩
 refine wpAny_getItem_list_slice ht.isList hs pl pu .none (by simp) ?_ (by rw[Ry] <;> lia)
 rw[ue,← hlen]
 refine⟨.ref s.heap.objs.size,_,I.laid (t':=s.toks) (o:=.lst (Fj xs lo hi)) (fun b ob q=>Rb _ q) (Rh _) ?_,rfl,q _ (I.hok.fresh (Rh _))⟩
 exact⟨RP (qZ xs lo hi) hz,_,0,(r.drop (HT.sIx xs.length 0 lo)).take (HT.sIx xs.length xs.length hi - HT.sIx xs.length 0 lo),RK _ rfl⟩
def rn:V->Bool
 | .non=>true
 | .bl _=>true
 | .int _=>true
 | .str _=>true
 | _=>false
def eqV:V->V->Bool
 | .non,.non=>true
 | .bl a,.bl b=>a == b
 | .bl a,.int b=>(if a then 1 else 0) == b
 | .int a,.bl b=>a == (if b then 1 else 0)
 | .int a,.int b=>a == b
 | .str a,.str b=>a == b
 | _,_=>false
theorem Oi {A:Sh} {s:Ra} {y x:V} {u v:Value} (ry:RelV y u) (rx:RelV x v) (fy:rn y=true) (fx:rn x=true):X5 A s u v (eqV y x):=by
 cases y with
 | non =>
  cases ry
  cases x with
  | non=>cases rx; exact Yl _
  | bl b=>cases rx; exact SeqAt.EqAt.none_bool b
  | int b=>obtain⟨t,rfl⟩:=rx; exact SeqAt.EqAt.none_int b t
  | str b=>obtain⟨t,rfl⟩:=rx; exact SeqAt.EqAt.none_str b t
  | _=>exact absurd (show false=true from fx) Rv
 | bl a =>
  cases ry
  cases x with
  | non=>cases rx; exact SeqAt.EqAt.bool_none a
  | bl b=>cases rx; exact SeqAt.EqAt.bool_bool a b
  | int b=>obtain⟨t,rfl⟩:=rx; exact SeqAt.EqAt.bool_int a b t
  | str b=>obtain⟨t,rfl⟩:=rx; exact SeqAt.EqAt.bool_str a b t
  | _=>exact absurd (show false=true from fx) Rv
 | int a =>
  obtain⟨t',rfl⟩:=ry
  cases x with
  | non=>cases rx; exact SeqAt.EqAt.int_none a t'
  | bl b=>cases rx; exact SeqAt.EqAt.int_bool a t' b
  | int b=>obtain⟨t,rfl⟩:=rx; exact Xn a t' b t
  | str b=>obtain⟨t,rfl⟩:=rx; exact Zb a t' b t
  | _=>exact absurd (show false=true from fx) Rv
 | str a =>
  obtain⟨t',rfl⟩:=ry
  cases x with
  | non=>cases rx; exact SeqAt.EqAt.str_none a t'
  | bl b=>cases rx; exact SeqAt.EqAt.str_bool a t' b
  | int b=>obtain⟨t,rfl⟩:=rx; exact Y9 a t' b t
  | str b=>obtain⟨t,rfl⟩:=rx; exact SeqAt.EqAt.str_str a t' b t
  | _=>exact absurd (show false=true from fx) Rv
 | _=>exact absurd (show false=true from fy) Rv
def eqU (x:V) (u:Value):Bool:=match u with
 | .none=>eqV .non x
 | .bool b=>eqV (.bl b) x
 | .int i _=>eqV (.int i) x
 | .str z _=>eqV (.str z) x
 | _=>false
theorem HY {x y:V} {u:Value} (r:RelV y u) (f:rn y=true):eqU x u=eqV y x:=by
 cases y with
 | non=>cases r; rfl
 | bl b=>cases r; rfl
 | int i=>obtain⟨t,rfl⟩:=r; rfl
 | str z=>obtain⟨t,rfl⟩:=r; rfl
 | _=>exact absurd (show false=true from f) Rv
theorem qj {x:V}:∀ {xs:List V} {us:List Value},Vals xs us->xs.all rn=true->us.any (eqU x)=xs.any fun y=>eqV y x
 | _,_,.nil,_=>rfl
 | y::xs,u::us,.cons r t,f=>by
  rw[Wl,Rp] at f
  rw[List.any_cons,List.any_cons,HY r f.1,qj t f.2]
theorem mz {A:Sh} {s:Ra} {x:V} {v:Value} (rx:RelV x v) (fx:rn x=true):∀ {xs:List V} {us:List Value},Vals xs us->xs.all rn=true->∀ u∈us,X5 A s u v (eqU x u)
 | _,_,.nil,_=>fun u hu=>by cases hu
 | y::xs,u::us,.cons r t,f=>fun u' hu=>by
  rw[Wl,Rp] at f
  rcases List.mem_cons.mp hu with rfl | hu
  ·rw[HY r f.1]; exact Oi r rx f.1 fx
  ·exact mz rx fx t f.2 u' hu
def inV (x:V) (xs:List V):Bool:=xs.any fun y=>eqV y x
def rIn (K:RD) (neg:Bool):R2:=fun x y H Q=>∃ p xs,y = .ref p/\(SqL K H p xs∨SqT K H p xs)/\rn x=true/\xs.all rn=true/\Q (.bl (if neg then !inV x xs else inV x xs)) H
theorem fQ:OpR X (T6 .In) (rIn X.K false):=by
 intro pins s σ H x y v u Q I rx ry h
 obtain⟨p,xs,rfl,hq,fx,fs,q⟩:=h
 cases ry
 rcases hq with hq | hq
 ·obtain⟨its,r,pl,hz⟩:=I.list hq
  refine SeqAt.in_listAt (eqU x) pl.isList (fun w hw=>mz rx fx r fs w (by simpa using hw)) ⟨.bl _,H,I,rfl,?_⟩
  rw[show its.toArray.any (eqU x)=its.any (eqU x) by simp,qj r fs]
  exact q
 ·obtain⟨its,r,pl,hz⟩:=I.tuple hq
  refine SeqAt.in_tupleAt (eqU x) pl (fun w hw=>mz rx fx r fs w (by simpa using hw)) ⟨.bl _,H,I,rfl,?_⟩
  rw[show its.toArray.any (eqU x)=its.any (eqU x) by simp,qj r fs]
  exact q
theorem vO:OpR X (T6 .NotIn) (rIn X.K true):=by
 intro pins s σ H x y v u Q I rx ry h
 obtain⟨p,xs,rfl,hq,fx,fs,q⟩:=h
 cases ry
 rcases hq with hq | hq
 ·obtain⟨its,r,pl,hz⟩:=I.list hq
  refine SeqAt.notIn_listAt (eqU x) pl.isList (fun w hw=>mz rx fx r fs w (by simpa using hw)) ⟨.bl _,H,I,rfl,?_⟩
  rw[show its.toArray.any (eqU x)=its.any (eqU x) by simp,qj r fs]
  exact q
 ·obtain⟨its,r,pl,hz⟩:=I.tuple hq
  refine SeqAt.notIn_tupleAt (eqU x) pl (fun w hw=>mz rx fx r fs w (by simpa using hw)) ⟨.bl _,H,I,rfl,?_⟩
  rw[show its.toArray.any (eqU x)=its.any (eqU x) by simp,qj r fs]
  exact q
theorem vY:je X (.builtin "len") (fun xs H Q=>∃ p ys,xs=[.ref p]/\(SqL X.K H p ys∨SqT X.K H p ys)/\Q (.int ys.length) H):=by
 intro pins s σ H xs us Q I r h
 obtain⟨p,ys,rfl,hq,q⟩:=h
 obtain⟨u,rfl,rx⟩:=vals1 r
 cases rx
 have hn:=rP
 rcases hq with hq | hq
 ·obtain⟨its,r',pl,hz⟩:=I.list hq
  have hlen:=r'.length
  exact Calls.call_len_list pl.isList (by simp only[Ry] <;> lia) ⟨.int ys.length,H,I.tok _,⟨s.toks+1,by rw[Ry,hlen]⟩,q⟩
 ·obtain⟨its,r',pl,hz⟩:=I.tuple hq
  have hlen:=r'.length
  exact len_tuple pl (by simp only[Ry] <;> lia) ⟨.int ys.length,H,I.tok _,⟨s.toks+1,by rw[Ry,hlen]⟩,q⟩
theorem dM:je X (.builtin "len") (fun xs H Q=>∃ z,xs=[.str z]/\z.length<=sizeLine/\Q (.int z.length) H):=by
 intro pins s σ H xs us Q I r h
 obtain⟨z,rfl,hz,q⟩:=h
 obtain⟨u,rfl,t,rfl⟩:=vals1 r
 have hn:=rP
 exact len_str (by lia) ⟨.int z.length,H,I.tok _,⟨_,rfl⟩,q⟩
theorem vZ:je X (.type "list") (fun xs H Q=>∃ p ys,xs=[.ref p]/\(SqL X.K H p ys∨SqT X.K H p ys)/\∀ l,H l=none->Q (.ref l) (upd H l (.lst ys))):=by
 intro pins s σ H xs us Q I r h
 obtain⟨p,ys,rfl,hq,q⟩:=h
 obtain⟨u,rfl,rx⟩:=vals1 r
 cases rx
 have fin:∀ (its:List Value),Vals ys its->ys.length<=sizeLine->∀ (h':Tf) (c':Nat),(∀ b o',s.heap.get? b=some o'->h'.get? b=some o') →
   h'.get? s.heap.objs.size=some { cls:=.type "list",dict:=none,data:=.seq its.toArray c',slots:=#[] }->EP X pins σ Q (.ref s.heap.objs.size) { s with heap:=h' }:=fun its r' hz h' c' kp e =>
  ⟨.ref s.heap.objs.size,_,I.laid (t':=s.toks) kp (Rh _) (show fV X.prog X.w _ h' _ (.lst ys) from ⟨hz,its,c',r',e⟩),rfl,q _ (I.hok.fresh (Rh _))⟩
 rcases hq with hq | hq
 ·obtain⟨its,r',pl,hz⟩:=I.list hq
  have hlen:=r'.length
  obtain⟨o,ho,hc,n,hd⟩:=pl.isList
  exact call_list_seq p (.inl rfl) ho hc hd (fun h' c' kp e=>fin its r' hz h' c' kp e) (by simp only[Ry] <;> lia)
 ·obtain⟨its,r',pl,hz⟩:=I.tuple hq
  have hlen:=r'.length
  obtain⟨o,ho,hc,n,hd⟩:=pl
  exact call_list_seq p (.inr rfl) ho hc hd (fun h' c' kp e=>fin its r' hz h' c' kp e) (by simp only[Ry] <;> lia)
theorem uv:je X (.type "tuple") (fun xs H Q=>∃ p ys,xs=[.ref p]/\((SqL X.K H p ys/\∀ l,H l=none->Q (.ref l) (upd H l (.tup ys)))∨(SqT X.K H p ys/\Q (.ref p) H))):=by
 intro pins s σ H xs us Q I r h
 obtain⟨p,ys,rfl,h⟩:=h
 obtain⟨u,rfl,rx⟩:=vals1 r
 cases rx
 rcases h with⟨hq,q⟩ | ⟨hq,q⟩
 ·obtain⟨its,r',pl,hz⟩:=I.list hq
  have hlen:=r'.length
  refine call_tuple_list pl.isList (fun h' kp=>?_) (by simp only[Ry] <;> lia)
  have I1:Inv X pins σ H { s with heap:=h' }:=I.kept (t':=s.toks) kp
  have I2:Inv X pins σ (upd H h'.objs.size (.tup ys)) { s with heap:=h'.push { cls:=.type "tuple",data:=.seq its.toArray } } :=
   I1.laid (t':=s.toks) (fun b o e=>Rb _ e) (Rh _) (show fV X.prog X.w _ _ _ (.tup ys) from ⟨hz,its,r',IsTup.new _ _⟩)
  exact⟨.ref h'.objs.size,_,I2,rfl,q _ (I1.hok.fresh (Rh _))⟩
 ·obtain⟨its,r',pl,hz⟩:=I.tuple hq
  exact call_tuple_same pl ⟨.ref p,H,I,rfl,q⟩
def tyV (K:RD) (T:String) (x:V) (H:Hp):Prop:=match x with
 | .str _=>T = "str"
 | .int _=>T = "int"
 | .ref p=>(T = "list"/\∃ xs,SqL K H p xs)∨(T = "tuple"/\∃ o,K.lookup p=some o/\o.cls = .type "tuple"/\o.dict=none) ∨
   (T = "dict"/\((∃ kvs,H p=some (.dK kvs))∨∃ kvs,H p=some (.dT kvs)))∨(T = "set"/\∃ S n,H p=some (.set S n))
 | _=>False
theorem Nr {pins:List (Addr × U3)} {σ:St} {H:Hp} {s:Ra} {T:String} {x:V} {v:Value} (I:Inv X pins σ H s) (r:RelV x v) (ty:tyV X.K T x H) :
  s.TypeIs v T/\∀ a,v = .ref a->∃ ob,s.heap.get? a=some ob/\ob.dict=none:=by
 cases x with
 | str z =>
  obtain⟨t,rfl⟩:=r
  cases (show T = "str" from ty)
  exact⟨WT s z t,fun _ e=>nomatch e⟩
 | int i =>
  obtain⟨t,rfl⟩:=r
  cases (show T = "int" from ty)
  exact⟨typeIs_int s i t,fun _ e=>nomatch e⟩
 | ref p =>
  cases r
  rcases ty with⟨rfl,xs,hq⟩ | ⟨rfl,o,hk,hc,hd⟩ | ⟨rfl,hk⟩ | ⟨rfl,S,n,hk⟩
  ·obtain⟨its,_,pl,_⟩:=I.list hq
   refine⟨pl.isList.typeIs,fun a e=>?_⟩
   cases e
   obtain⟨o,n,e,c,hd,_⟩:=pl
   exact⟨o,e,hd⟩
  ·refine⟨⟨o,I.kIn p o hk,hc⟩,fun a e=>?_⟩
   cases e
   exact⟨o,I.kIn _ o hk,hd⟩
  ·have z:∃ o,s.heap.get? p=some o/\o.ExactDict:=by
    rcases hk with⟨kvs,hk⟩ | ⟨kvs,hk⟩
    ·obtain⟨_,_,_,_,o,_,_,e,ex,_⟩:=I.hok p _ hk
     exact⟨o,e,ex⟩
    ·obtain⟨_,_,_,_,o,_,_,e,ex,_⟩:=I.hok p _ hk
     exact⟨o,e,ex⟩
   obtain⟨o,e,ex⟩:=z
   refine⟨⟨o,e,ex.1⟩,fun a e2=>?_⟩
   cases e2
   exact⟨o,e,ex.2.1⟩
  ·obtain⟨o,_,_,_,e,ex,_⟩:=I.hok p _ hk
   refine⟨⟨o,e,ex.1⟩,fun a e2=>?_⟩
   cases e2
   exact⟨o,e,ex.2.1⟩
 | _=>exact SX ty
def tBM (K:RD) (T:String) (r:V->List V->Hp->VK->Prop) (to:TE) (t:TA):TE:=fun σ H Q=>to σ H fun x H1=>tyV K T x H1/\t σ H1 fun xs H2=>r x xs H2 Q
variable {o e:Expr} {es:List Expr} {to:TE} {t:TA} {name:Str} {apos cpos:Wi} {T id:String} {r:V->List V->Hp->VK->Prop}
theorem gA (pa:PlainAttrs T) (slot:Slot T name id) (hty:typeOf (.builtin id)=pure (.type "method_descriptor")) (hm:MtR X id r) (ho:PE X o to) (ha:PA X (e::es) t)
  (hbase:attributeBase o name X.env (UG o X.env)=UG o X.env:=by rfl)
  (hfew:((We cpos (R9 (e::es) X.env)).all (fun x=>!x.1) && (backToKw cpos (keywordEach [] X.env)).all (fun x=>x.1.isSome)
   && decide ((e::es).length+([]:List Keyword).length+(if ([]:List Keyword).isEmpty then 0 else 1) < 30))=true:=by rfl)
  (hline:(apos.endLine == cpos.line)=true:=by rfl) (hs:R9 (e::es) X.env=(false,UG e X.env)::R9 es X.env:=by rfl) (hplain:(We cpos (R9 es X.env)).any (·.1)=false:=by rfl) :
  PE X (.Call (.Attribute o name apos) (e::es) [] cpos) (tBM X.K T r to t):=by
 intro pins s σ H Q I h
 refine wpAny_Call_method_late hbase hfew hline rfl (thn (ho pins s σ H _ I h) fun v s1 ⟨x,H1,I1,r1,ty,q1⟩=>?_)
 obtain⟨h1,h2⟩:=Nr I1 r1 ty
 refine⟨T,id,pa,slot,hty,h1,h2,?_⟩
 have hA:=ha cpos pins s1 σ H1 _ I1 q1
 rw[hs] at hA ⊢
 refine Calls.callWith_builtin (by show (false || (We cpos (R9 es X.env)).any (·.1))=false; rw[hplain] <;> rfl) (Calls.evalArgs_plain ?_)
 exact thn hA fun us s2 ⟨vs,H2,I2,r2,q2⟩=>hm pins s2 σ H2 x vs v us Q I2 r1 r2 q2
/- xs.append(e),list.index on a module's tuple .. are MtR facts of 06m -/
end
end L2
namespace L2
open PySem PySem.Spec PyProof.Rows
def MtM (X:Cx) (id:String) (r:V->List V->Hp->VK->Prop):Prop :=
 ∀ (pins:List (Addr × U3)) (s:Ra) (σ:St) (H:Hp) (x:V) (xs:List V) (v:Value) (us:List Value) (Q:VK),Inv X pins σ H s->RelV x v->Vals xs us->r x xs H Q →
  Rt (Ru X.prog X.w) X.A (call (.builtin id) (v::us)) (EP X pins σ Q) X.xe s
theorem Vals.one:∀ {x:V} {us:List Value},Vals [x] us->∃ u,us=[u]/\RelV x u
 | _,_,.cons r .nil=>⟨_,rfl,r⟩
theorem Vals.two:∀ {x y:V} {us:List Value},Vals [x,y] us->∃ u v,us=[u,v]/\RelV x u/\RelV y v
 | _,_,_,.cons r (.cons q .nil)=>⟨_,_,rfl,r,q⟩
theorem Vals.rep {xs:List V} {us:List Value} (h:Vals xs us):∀ k:Nat,Vals (Rq k xs).flatten (Rq k us).flatten
 | 0=>.nil
 | k+1=>by
  rw[Tz,Tz,WM,WM]
  exact Vals.append h (Vals.rep h k)
theorem foldl_rep (its:List Value):∀ (k:Nat) (acc:List Value),
  List.foldl (fun x1 x2=>x1++x2) acc.toArray (Rq k its.toArray)=(acc++(Rq k its).flatten).toArray
 | 0,acc=>by simp
 | k+1,acc=>by
  have e:acc.toArray++its.toArray=(acc++its).toArray:=by simp
  have e2:(acc++its)++(Rq k its).flatten=acc++(Rq (k+1) its).flatten:=by
   rw[Tz,WM,RG]
  rw[← e2,← foldl_rep its k (acc++its),← e,Tz,VD]
section
variable {X:Cx} {pins:List (Addr × U3)} {σ:St} {H:Hp} {s:Ra} {l b:Addr} {xs ys zs:List V}
theorem Inv.QJ {its its':List Value} {n:Nat} {f:Array Value->Array Value} {t':Nat} (I:Inv X pins σ H s) (hH:H l=some (.lst xs))
  (e:s.heap.get? l=some { cls:=.type "list",data:=.seq its.toArray n }) (hf:f its.toArray=its'.toArray) (hv:Vals ys its') (hz:ys.length<=sizeLine) :
  Inv X pins σ (upd H l (.lst ys)) { s with heap:=s.heap.update l (Ws f),toks:=t' }:=by
 have q:=PySem.IsL.update e f
 rw[hf] at q
 refine I.write (x:=l) (e:=l) (by rw[hH]; exact trivial) (.inl rfl) (fun b' u hb hu=>(R8 s.heap (Ws f) (Tw hb)).trans hu) ⟨_,q⟩ ?_
 exact⟨hz,its',_,hv,q⟩
theorem Inv.M8 {its:List Value} {t':Nat} (I:Inv X pins σ H s) (hv:Vals ys its) (hz:ys.length<=sizeLine) :
  Inv X pins σ (upd H s.heap.objs.size (.lst ys)) { s with heap:=s.heap.push { cls:=.type "list",data:=.seq its.toArray },toks:=t' } :=
 I.laid (fun _ _ q=>Rb _ q) (Rh _) ⟨hz,its,0,hv,RK _ rfl⟩
theorem Inv.fresh (I:Inv X pins σ H s):H s.heap.objs.size=none:=I.hok.fresh (Rh _)
theorem Inv.Ot (I:Inv X pins σ H s) (hH:H l=some (.lst xs)):xs.length<=sizeLine/\∃ (its:List Value) (n:Nat),Vals xs its/\xs.length=its.length/\s.heap.get? l=some { cls:=.type "list",data:=.seq its.toArray n }:=by
 obtain⟨z,its,n,r,e⟩:=I.hok l _ hH
 exact⟨z,its,n,r,r.length,e⟩
theorem Gi {n:Nat} (h:n<=sizeLine):XH n=false:=by
 unfold XH
 exact decide_eq_false (by lia)
end
section
variable {X:Cx}
def IV:V->List V->Hp->VK->Prop:=fun x vs H Q=>∃ l xs y,x = .ref l/\vs=[y]/\H l=some (.lst xs)/\xs.length < sizeLine/\Q .non (upd H l (.lst (xs++[y])))
theorem dw:MtM X "list.append" IV:=by
 intro pins s σ H x vs v us Q I rx rv h
 obtain⟨l,xs,y,rfl,rfl,hH,hz,q⟩:=h
 cases rx
 obtain⟨u,rfl,ru⟩:=rv.one
 obtain⟨z,its,n,r,hl,e⟩:=I.Ot hH
 refine WY F.slot_list_append ⟨_,e,rfl⟩ F.entry_list_append (F.args_list_append_2 _ _) (PySem.list_append l its.toArray n u (by rw[Ry]; lia)) ⟨e,?_⟩
 refine⟨.non,_,I.QJ (its':=its++[u]) hH e (by simp) (r.append (.cons ru .nil)) ?_,rfl,q⟩
 rw[Rf,Rk]
 lia
def PK:R2:=fun x y H Q=>∃ l b xs zs,x = .ref l/\y = .ref b/\H l=some (.lst xs)/\H b=some (.lst zs)/\xs.length+zs.length<=sizeLine/\∀ p,H p=none->Q (.ref p) (upd H p (.lst (xs++zs)))
theorem zz:OpR X (VB .Add) PK:=by
 intro pins s σ H x y v u Q I rx ry h
 obtain⟨l,b,xs,zs,rfl,rfl,hH,hB,hz,q⟩:=h
 cases rx
 cases ry
 obtain⟨z,its,n,r,hl,e⟩:=I.Ot hH
 obtain⟨z2,its2,n2,r2,hl2,e2⟩:=I.Ot hB
 refine PySem.P.add_list e e2 ?_ (by rw[Ry,Ry]; lia)
 have ea:its.toArray++its2.toArray=(its++its2).toArray:=by simp
 rw[ea]
 exact⟨.ref _,_,I.M8 (t':=s.toks) (r.append r2) (by rw[Rf]; lia),rfl,q _ I.fresh⟩
def QB:R2:=fun x y H Q=>∃ l k xs,x = .ref l/\y = .int k/\H l=some (.lst xs)/\-(2 ^ 63)<=k/\k < 2 ^ 63/\xs.length * k.toNat<=sizeLine ∧
 ∀ p,H p=none->Q (.ref p) (upd H p (.lst (Rq k.toNat xs).flatten))
theorem len_rep {α:Type} (xs:List α) (k:Nat):(Rq k xs).flatten.length=k * xs.length:=by
 induction k with
 | zero=>simp
 | succ k ih=>rw[Tz,WM,Rf,ih,Nat.succ_mul,Nat.add_comm]
theorem Ms:OpR X (VB .Mult) QB:=by
 intro pins s σ H x y v u Q I rx ry h
 obtain⟨l,k,xs,rfl,rfl,hH,h1,h2,hz,q⟩:=h
 cases rx
 obtain⟨t,rfl⟩:=ry
 obtain⟨z,its,n,r,hl,e⟩:=I.Ot hH
 have hlen:its.toArray.size * k.toNat<=sizeLine:=by rw[Ry,← hl]; exact hz
 have hcap:¬ its.toArray.size * k.toNat > (2 ^ 63 - 1) / 8:=by
  have:(sizeLine:Nat)<=(2 ^ 63 - 1) / 8:=by decide
  lia
 have hfit:¬ (!Builtin.List.listFitsIndex k)=true:=by
  rw[fitsIndex_both h1 h2]
  exact Rv
 have hlong:¬ XH (its.toArray.size * k.toNat)=true:=by
  rw[Gi hlen]
  exact Rv
 have hnew:List.foldl (fun x1 x2=>x1++x2) #[] (Rq (if its.toArray.isEmpty=true then 0 else k.toNat) its.toArray)=(Rq k.toNat its).flatten.toArray:=by
  have f0:∀ m:Nat,List.foldl (fun x1 x2=>x1++x2) #[] (Rq m its.toArray)=(Rq m its).flatten.toArray:=fun m=>by
   have:=foldl_rep its m []
   rw[TF] at this
   exact this
  rw[f0]
  cases its with
  | nil=>simp
  | cons a r'=>rw[if_neg (by simp)]
 refine wpAny_binaryOp_repeat_ref (T:="list") (U:="int") (by decide) ⟨_,e,rfl⟩ (fun s'=>typeIs_int s' k t) noFill_list_mul F.fills_int_mul F.slot_int_rmul repeat_list F.slot_int_index.lookup
  (WY F.slot_int_rmul (typeIs_int s k t) F.entry_int_rmul (F.args_int_rmul_2 _ _) (int___rmul___int_list k t l its.toArray n)
   ⟨e,rfl,⟨_,e,rfl⟩,WY F.slot_list_mul ⟨_,e,rfl⟩ F.entry_list_mul (F.args_list_mul_2 _ _) (AutoListH.list___mul___list_int_3 l its.toArray n k t hfit hcap hlong) ⟨e,?_⟩⟩)
 rw[hnew]
 exact⟨.ref _,_,I.M8 (t':=s.toks) (r.rep k.toNat) (by rw[len_rep,Nat.mul_comm]; exact hz),rfl,q _ I.fresh⟩
end
section
variable {prog:RV} {w:Sv} {A:Sh} {E:Value->Ra->Prop} {s:Ra}
set_option maxRecDepth 100000 in
end
section
variable {X:Cx}
end
end L2
namespace Att
open PySem PySem.W PySem.Calls PyProof.Rows
theorem pG {P:Params} {h:Tf}:∀ (ns:List Int) (vs:List Value),WellAll P h vs (ns.map WData.int)->Ue vs ns:=by
 intro ns
 induction ns with
 | nil =>
  intro vs w
  rw[List.map_nil] at w
  cases w
  exact .nil
 | cons n ns ih =>
  intro vs w
  rw[Tv] at w
  cases w with
  | cons a b =>
   cases a
   exact .cons _ _ (ih _ b)
theorem Es {l:OpenLaw} {n:Nat} (hn:l.most=some n) {P:Params} {h:Tf} {args:List WData} {vals:List Value}
  (hpre:l.row.toRowW.claim.pre args=true) (hwl:WellAll P h vals args) :
  ∃ a vs ns,vals=[R5 a]/\args=[WData.list (ns.map WData.int)]/\h.get? a=some { cls:=.type "list",data:=.seq vs.toArray }/\Ue vs ns/\ns.length<=n:=by
 have hsh:WShape.hasAll [] args [.list .int]=true:=(pre_splitW hpre).1
 have hc:l.pre.holds [] { args:=args }=true:=(pre_splitW hpre).2
 obtain⟨d,r,rfl,h1,h2⟩:=hasAllW_cons hsh
 obtain rfl:=hasAllW_nil h2
 obtain⟨xs,rfl,h3⟩:=hasW_list h1
 obtain⟨ns,rfl⟩:=items_int h3
 have hlen:ns.length<=n:=by
  unfold OpenLaw.pre at hc
  have h4:(WTm.not (.lt (.lit (.int (n:Int))) (.len (.arg 0)))).holds [] { args:=[.list (ns.map .int)] }=true:=by
   have h4:=(holds_andW hc).1
   rw[hn] at h4
   exact h4
  have h5:=condW_of h4 (w_not (w_lt w_lit (w_len_list (w_arg rfl))))
  rw[Q8] at h5
  refine Nat.le_of_not_lt fun q=>?_
  have q':(n:Int) < ((ns.length:Nat):Int):=by lia
  first
   | (rw[decide_eq_true q'] at h5; exact absurd h5 (by decide))
   | (simp at h5; lia)
 cases hwl with
 | cons w1 w2 =>
  cases w2
  cases w1 with
  | list ho hall=>exact⟨_,_,ns,rfl,rfl,ho,pG ns _ hall,hlen⟩
theorem Ex (l:OpenLaw) (args:List WData):l.row.toRowW.claim.post args (.bool true) args=true :=
 postW_of (r:=l.row.toRowW) (X:=(true == true))
  (show WShape.has [] (.bool true) .bool=true by first | rfl | decide | simp [WShape.has,WShape.arms,WShape.armsAll])
  (show (WTm.eq .res (.lit (.bool true))).value [] { args:=args,res:=some (.bool true),after:=args }=some (.bool (true == true)) from w_eq_bool (w_res rfl) w_lit) rfl
theorem wY {l:OpenLaw} {n:Nat} {q:RV} {loose:List Str} {XP:(Str->Option Value)->Tf->Prop} {YP:Sv->Tf->Prop} {d:DefRec}
  (hn:l.most=some n) (hdf:d.params.defaults=[])
  (call:∀ (w:Sv) (s₀ s₁:Ra) (mg mb:Str->Option Value) (fa:Addr) (o:U3) (pm cd doc:Value) (a:Addr) (vs:List Value) (ns:List Int),
   Ground q loose [] XP w s₀ mg mb s₁.heap->YP w s₁.heap →
   s₁.heap.get? fa=some o->o.data = .func (docDef d.name d.params d.body d.scope pm cd doc)->s₁.heap.CodeRec cd d.name->mg d.name=some (.ref fa) →
   s₁.heap.get? a=some { cls:=.type "list",data:=.seq vs.toArray }->Ue vs ns->ns.length<=n->s₁.gens = #[] →
   T5 (Ru l.prog w) Zm (.call (.ref fa) ⟨[.ref a],[]⟩) (fun r s'=>r = .ok (.ret (.bool true))/\OldK s₁.heap s'.heap/\s'.os=s₁.os/\Xx s'.gens) s₁) :
  WalkO q loose XP YP l.row.toRowW d [] (fun f vs=>PySem.call f vs):=by
 intro w s₀ s₁ mg mb G Y fa o pm cd doc dV kV ho hd hcd hD hmg hg args vals as hpre hlay hrd hwl hlo
 obtain rfl:dV = .none:=Dflts.none hD hdf
 obtain rfl:kV = .none:=Dflts.noKw hD
 obtain⟨a,vs,ns,rfl,rfl,hobj,hints,hlen⟩:=Es hn hpre hwl
 refine enter_call (Vl (call w s₀ s₁ mg mb fa o pm cd doc a vs ns G Y ho (fd_plain hd) hcd hmg hobj hints hlen hg) fun r s' hq=>?_)
 obtain⟨rfl,h2,h3,h4⟩:=hq
 exact⟨.inl ⟨.bool true,.bool true,[],rfl,fun _=>rfl,.bool true,Ex l _,fun _=>⟨Xw,fun _ hm=>(nomatch hm)⟩⟩,h2,h3,h4⟩
section
variable {prog:RV} {w:Sv} {A:Sh} {E:Value->Ra->Prop} {s:Ra} {K:Frag}
theorem Iz {R:Yw->Ra->Prop} {name qual:Str} {params:YH} {body:List Stmt} {scope:Va} {dV kV doc pm cdv ct oc:Value} {an od:Option Addr} {osl:Array (Option Value)} {f:Addr} {args:Args} {binds:List (Str × Value)}
  (X:K.In s.heap) (hlim:s.heap.NoLimit) (ho:K.lookup f=some ⟨oc,od,.func (fnOf name qual params body scope dV kV doc pm an cdv ct),osl⟩) (hcd:codeIn K cdv qual=true) (hroom:A.depth < recursionLimit)
  (hbind:Yg s (fnOf name qual params body scope dV kV doc pm an cdv ct) args binds)
  (hkind:(binds.all fun y=>scope.names.lookup y.1 == some .local || scope.names.lookup y.1 == some .cell)=true)
  (h:∀ s₁,InCallC s s.heap.objs.size (bindL (envOfC qual scope s.heap.objs.size f cdv).kindOf binds fun _=>none) (cellsFrom (s.heap.objs.size+1) scope.names [])
    (bindC (envOfC qual scope s.heap.objs.size f cdv).kindOf binds fun _=>none) s₁ →
   Rt (Ru prog w) (A.deeper (envOfC qual scope s.heap.objs.size f cdv)) (execs body (envOfC qual scope s.heap.objs.size f cdv))
    (fun fl s'=>R (.ok (.ret (match fl with | .ret v=>v | _=>.none))) s')
    (fun e s'=>Rt (Ru prog w) (A.deeper (envOfC qual scope s.heap.objs.size f cdv)) (leaving (envOfC qual scope s.heap.objs.size f cdv) e) (fun _ s''=>R (.error e) s'') (fun e' s''=>R (.error e') s'') s') s₁)
  (hco:scope.isCoroutine=false) (hgen:scope.isGenerator=false) (hk:scope.kind = .function):T5 (Ru prog w) A (.call (.ref f) args) R s:=by
 refine codeAny_call_function hroom (X _ _ ho) rfl hco hgen rfl (codeRec_of X hcd) (hbind _ _ _ _ ?_)
 refine wpAny_newFunctionEnv_cells hk (kindsX hkind _) fun env he s₁ x=>?_
 subst he
 exact⟨hlim.keeps x.toInCall.keep,codeAny_func (h s₁ x)⟩
end
end Att
namespace L2
open PySem PySem.Spec PyProof.Rows
theorem lU:∀ {vs:List Value} {ns:List Int},Ue vs ns->Vals (ns.map V.int) vs
 | _,_,.nil=>.nil
 | _,_,.cons n t h=>.cons ⟨t,rfl⟩ (lU h)
end L2
namespace L2
open PySem PySem.Spec PyProof.Rows
end L2
namespace L2
open PySem PySem.Spec PyProof.Rows
def inClass (s:Stmt) (j:Nat):Stmt:=match s with
 | .ClassDef _ _ _ body _ _ _ _ _ _ _=>body.getD j (.Pass ⟨0,0,0,0⟩)
 | _=>.Pass ⟨0,0,0,0⟩
def cX (s:Stmt):YH:=match s with
 | .FunctionDef _ a _ _ _ _ _ _ _ _=>a
 | _=>{ posonlyargs:=[],args:=[],vararg:=none,kwonlyargs:=[],kw_defaults:=[],kwarg:=none,defaults:=[] }
def bO (s:Stmt):List Stmt:=match s with
 | .FunctionDef _ _ b _ _ _ _ _ _ _=>b
 | _=>[]
def aB (s:Stmt):Va:=match s with
 | .FunctionDef _ _ _ _ _ _ sc _ _ _=>sc
 | _=>{ kind:=.function,names:=[],isGenerator:=false,isCoroutine:=false }
abbrev CX0:CXT:=fun _ _ _ _ _ _=>False
abbrev E0:XK:=fun _ _ _=>False
theorem JN {X:Cx}:Passes CX0 X E0:=fun _ _ _ _ _ _ _ h=>h.elim
structure Fun (K:RD) (x qual:Str) (st:Stmt) (f:Addr) (fd:Tp):Prop where
 ex:∃ (oc:Value) (od:Option Addr) (kV doc pm:Value) (an:Option Addr) (cdv ct:Value) (osl:Array (Option Value)),
  fd=Vw x qual (cX st) (bO st) (aB st) .none kV doc pm an cdv ct/\K.lookup f=some ⟨oc,od,.func fd,osl⟩/\WD K cdv qual=true
 kp:Ve K (.ref f)=true
section
variable {P:RV} {w:Sv} {K:RD} {mg:Str->Option Value} {base:Tf}
theorem Fun.ok {x qual:Str} {st:Stmt} {f:Addr} {fd:Tp} {N ps:List Str} {k:Nat} {sp:Sp} (F:Fun K x qual st f fd) (S:aV N ps (aB st)) (len:∀ vs H Q E,sp vs H Q E->vs.length=ps.length)
  (hbody:∀ (cdv:Value) (A:Sh) (outer:List WQ) (s:Ra) (H:Hp) (vs:List V) (Q:VK) (E:XK),gB k (A.deeper (envOfC qual (aB st) s.heap.objs.size f cdv))->sp vs H Q E →
   ∃ t,PSs (xm CX0 P w K mg base N qual (aB st) f cdv A outer s H E).nox (bO st) t/\t { nx:=fun _ H'=>Q .non H',rt:=Q } (start N vs) H):dB P w K mg base CX0 (k+1) f fd ps sp:=by
 obtain⟨oc,od,kV,doc,pm,an,cdv,ct,osl,rfl,lk,hcd⟩:=F.ex
 refine JC lk hcd S len fun A outer s H vs Q E hr hsp=>?_
 obtain⟨t,h,q⟩:=hbody cdv A outer s H vs Q E hr hsp
 exact⟨t,h.nox,q⟩
theorem Fun.binds {x qual:Str} {st:Stmt} {f:Addr} {fd:Tp} {ps:List Str} (F:Fun K x qual st f fd)
  (h:∀ (kV doc pm:Value) (an:Option Addr) (cdv ct:Value) (us:List Value),us.length=ps.length->VM (Vw x qual (cX st) (bO st) (aB st) .none kV doc pm an cdv ct) ⟨us,[]⟩=pure (ps.zip us)):Binds K fd ps []:=by
 obtain⟨oc,od,kV,doc,pm,an,cdv,ct,osl,rfl,lk,hcd⟩:=F.ex
 exact .all (h kV doc pm an cdv ct)
theorem yX {x qual:Str} {st:Stmt} {f:Addr} {oc:Value} {od an:Option Addr} {osl:Array (Option Value)} {kV doc pm cdv ct:Value} (l:K.lookup f=some ⟨oc,od,.func (Vw x qual (cX st) (bO st) (aB st) .none kV doc pm an cdv ct),osl⟩)
  (c:WD K cdv qual=true) (k:Ve K (.ref f)=true):Fun K x qual st f (Vw x qual (cX st) (bO st) (aB st) .none kV doc pm an cdv ct):=⟨⟨oc,od,kV,doc,pm,an,cdv,ct,osl,rfl,l,c⟩,k⟩
end
theorem bj {n:Nat} (h:n<=1000):n < sizeLine:=Sw h (by decide)
section
variable {X:Cx}
theorem pv (i:Nat) {x:Str} {pos:Wi} (hN:X.N[i]? = some x:=by rfl) (hv:Vis X.env.scope x:=by first | exact RJ rfl | exact Zc (RJ rfl) | exact Zc (Zc rfl)) (hd:(x == ("__debug__" : Str))=false:=by decide)
  (hcd:(x == ("__classdict__" : Str))=false:=by decide):PE X (.Name x pos) (Ai i):=HS hN hv hd hcd
end
theorem dF {A B:Prop} (h:B):if false=true then A else B:=by
 rw[if_neg Rv]
 exact h
theorem bR {A B:Prop} (h:A):if true=true then A else B:=by
 rw[if_pos rfl]
 exact h
theorem jG {c A B:Prop} [Decidable c] (h1:c->A) (h2:¬ c->B):if c then A else B:=by
 by_cases h:c
 ·rw[if_pos h]
  exact h1 h
 ·rw[if_neg h]
  exact h2 h
def bc (H H':Hp):Prop:=∀ b o,H b=some o->H' b=some o
theorem bc.refl (H:Hp):bc H H:=fun _ _ h=>h
theorem bc.trans {H H1 H2:Hp} (a:bc H H1) (b:bc H1 H2):bc H H2:=fun c o h=>b c o (a c o h)
theorem bc.free {H H':Hp} (e:bc H H') {l:Addr} (h:H' l=Option.none):H l=Option.none:=by
 cases q:H l with
 | none=>rfl
 | some o =>
  rw[e l o q] at h
  cases h
theorem bc.seq {K:RD} {H H':Hp} {a:Addr} {xs:List V} (e:bc H H') (h:SqL K H a xs):SqL K H' a xs:=by
 rcases h with (h | ⟨o,h⟩) | h
 ·exact .inl (.inl (e _ _ h))
 ·exact .inl (.inr ⟨o,e _ _ h⟩)
 ·exact .inr h
end L2
set_option maxHeartbeats 4000000
namespace L2
open PySem PySem.Spec PyProof.Rows
theorem Ek {env:WQ}:∀ {names:List (Str × Xp)} {x:Str},names.lookup x=some .free →
  (names.map fun (n,k)=>if (k == Ur && env.scope.kind == .function && env.kindOf n == some .cell) then (n,YX) else (n,k)).lookup x=some .cell ∨
  (names.map fun (n,k)=>if (k == Ur && env.scope.kind == .function && env.kindOf n == some .cell) then (n,YX) else (n,k)).lookup x=some .free
 | [],_,h=>by simp at h
 | (n,k)::r,x,h=>by
  have ih:=@Ek env r x
  rw[Tv]
  cases hx:x == n with
  | true =>
   rw[Tr,hx] at h
   cases h
   by_cases hc:(Ur == Ur && env.scope.kind == .function && env.kindOf n == some .cell)=true
   ·refine .inl ?_
    dsimp only
    rw[if_pos hc,Tr,hx]
   ·refine .inr ?_
    dsimp only
    rw[if_neg hc,Tr,hx]
  | false =>
   rw[Tr,hx] at h
   dsimp only
   by_cases hc:(k == Ur && env.scope.kind == .function && env.kindOf n == some .cell)=true
   ·rw[if_pos hc,Tr,hx]; exact ih h
   ·rw[if_neg hc,Tr,hx]; exact ih h
theorem wL {env:WQ}:∀ {names:List (Str × Xp)} {x:Str} {k':Xp},
  (names.map fun (n,k)=>if (k == Ur && env.scope.kind == .function && env.kindOf n == some .cell) then (n,YX) else (n,k)).lookup x=some k'->names.lookup x=some k'∨names.lookup x=some .free
 | [],_,_,h=>by simp at h
 | (n,k)::r,x,k',h=>by
  have ih:=@wL env r x k'
  rw[Tv] at h
  dsimp only at h
  cases hx:x == n with
  | true =>
   rw[Tr,hx]
   by_cases hc:(k == Ur && env.scope.kind == .function && env.kindOf n == some .cell)=true
   ·have hk:k = .free:=by
     rw[Rp,Rp] at hc
     exact eq_of_beq hc.1.1
    exact .inr (by rw[hk])
   ·rw[if_neg hc,Tr,hx] at h
    exact .inl h
  | false =>
   rw[Tr,hx]
   by_cases hc:(k == Ur && env.scope.kind == .function && env.kindOf n == some .cell)=true
   ·rw[if_pos hc,Tr,hx] at h; exact ih h
   ·rw[if_neg hc,Tr,hx] at h; exact ih h
theorem yo {env:WQ}:∀ (names:List (Str × Xp)) (acc:List (Str × Addr)),(∀ y∈names,y.2 = .free->∃ c,env.cells.lookup y.1=some c)->(∀ n c,acc.lookup n=some c->env.cells.lookup n=some c) →
  ∃ cl,(forIn names acc (fun (x:Str × Xp) (r:List (Str × Addr))=>(match x with | (name,kind)=>if (kind == Ur)=true then (do let c ← cellOf env name; pure (Vk ((name,c)::r))) else pure (Vk r):Sem (ForInStep (List (Str × Addr))))))=pure cl ∧
   (∀ n c,cl.lookup n=some c->env.cells.lookup n=some c)/\(∀ n c,acc.lookup n=some c->∃ c',cl.lookup n=some c')/\∀ y∈names,y.2 = .free->∃ c,cl.lookup y.1=some c
 | [],acc,_,h=>⟨acc,by rw[List.forIn_nil],h,fun _ c e=>⟨c,e⟩,fun y hy=>by simp at hy⟩
 | (n,k)::r,acc,hf,h=>by
  rw[List.forIn_cons]
  dsimp only
  by_cases hk:(k == Ur)=true
  ·rw[if_pos hk]
   have hk':k = .free:=eq_of_beq hk
   obtain⟨c,hc⟩:=hf (n,k) Rc hk'
   have hc:env.cells.lookup n=some c:=hc
   have ec:cellOf env n=pure c:=by unfold cellOf; rw[hc]
   have h2:∀ m d,((n,c)::acc).lookup m=some d->env.cells.lookup m=some d:=fun m d e=>by
    rw[Tr] at e
    cases hx:m == n with
    | true=>rw[hx] at e; cases e; rw[eq_of_beq hx]; exact hc
    | false=>rw[hx] at e; exact h m d e
   obtain⟨cl,e1,e2,e3,e4⟩:=yo r ((n,c)::acc) (fun y hy=>hf y (Ri _ hy)) h2
   refine⟨cl,by rw[ec,pure_bind,pure_bind]; exact e1,e2,fun m d e=>?_,fun y hy hyf=>?_⟩
   ·refine (match hx:m == n with | true=>e3 m c (by rw[Tr,hx]) | false=>e3 m d (by rw[Tr,hx]; exact e))
   ·rcases List.mem_cons.mp hy with rfl | hy
    ·exact e3 n c (by rw[Tr,beq_self_eq_true])
    ·exact e4 y hy hyf
  ·rw[if_neg hk]
   obtain⟨cl,e1,e2,e3,e4⟩:=yo r acc (fun y hy=>hf y (Ri _ hy)) h
   refine⟨cl,by rw[pure_bind]; exact e1,e2,e3,fun y hy hyf=>?_⟩
   rcases List.mem_cons.mp hy with rfl | hy
   ·exact absurd (by rw[show k=Ur from hyf]; rfl) hk
   ·exact e4 y hy hyf
theorem qN {scope:Va} {env:WQ} (h:∀ y∈scope.names,y.2 = .free->∃ c,env.cells.lookup y.1=some c) :
  ∃ cl,closureFor scope env=pure cl/\(∀ n c,cl.lookup n=some c->env.cells.lookup n=some c)/\∀ y∈scope.names,y.2 = .free->∃ c,cl.lookup y.1=some c:=by
 obtain⟨cl,e1,e2,_,e4⟩:=yo scope.names [] h (fun _ _ e=>by simp at e)
 refine⟨cl,?_,e2,e4⟩
 unfold closureFor
 first
  | exact e1
  | (rw[← bind_pure (x:=pure cl),← e1]; rfl)
  | (simp only[bind_pure]; exact e1)
def aZ (X:Cx) (scope:Va) (cl:List (Str × Addr)) (C:Addr) (N:List Str) (s:Ra) (H:Hp) (fp:List Addr):Cx :=
 {X with N:=N,s₀:=s,H₀:=H,env:=Xm scope cl C X.env,outer:=X.stack,ex:=fp,fn:=fun _=>false,pn:=[],xe:=fun _ _=>False }
structure jP (X:Cx) (scope:Va) (F:List Str) (cap:List Nat):Prop where
 kind:scope.kind = .function
 cell:∀ y∈scope.names,y.2≠.cell
 nms:∀ y∈scope.names,y.2 = .local->scope.names.lookup y.1=some .local
 fr:∀ y∈scope.names,y.2 = .free->X.env.kindOf y.1=some .cell∨X.env.kindOf y.1=some .free
 len:cap.length=F.length
 at':∀ (k:Nat) (x:Str),F[k]? = some x->∃ i,cap[k]? = some i/\X.N[i]? = some x/\scope.names.lookup x=some .free
def PTs (X:Cx) (ifs:List Expr) (t:TT):Prop :=
 ∀ (pins:List (Addr × U3)) (s:Ra) (σ:St) (H:Hp) (Q:Bool->Hp->Prop),Inv X pins σ H s->t σ H Q →
  Rt (Ru X.prog X.w) X.A (forIn ifs true fun c r=>if r=true then do let ok ← isTrue c X.env (UG c X.env); pure (Vk ok) else pure (Vk r)) (TP X pins σ Q) X.xe s
def Ax:TT:=fun _ H Q=>Q true H
theorem cF {X:Cx}:PTs X [] Ax:=fun _ _ _ H _ I h=>wpAny_tests_nil ⟨H,I,h⟩
theorem z7 {prog:RV} {w:Sv} {A:Sh} {R:Yw->Ra->Prop} {s:Ra} {elt target iter:Expr} {ifs:List Expr} {scope:Va} {pos:Wi} {it acc:Value} {env:WQ} (I:Nat->Ra->Prop)
  (turn:∀ n s,I n s->Rt (Ru prog w) A (Xh it) (fun r s₁=>match r with
   | none=>R (.ok .next) s₁
   | some v=>Rt (Ru prog w) A (U8 target it v) (fun _ s₀=>Rt (Ru prog w) A (Xz target env v) (fun _ s₂ =>
     Rt (Ru prog w) A (forIn ifs true fun c r=>if r=true then do let ok ← isTrue c env (UG c env); pure (Vk ok) else pure (Vk r)) (fun ok s₃ =>
      if ok=true then Rt (Ru prog w) A (UG elt env) (fun x s₄=>Rt (Ru prog w) A (call (.builtin "list.append") [acc,x]) (fun _ s₅=>∃ m,m < n/\I m s₅) (fun _ _=>False) s₄) (fun _ _=>False) s₃
      else ∃ m,m < n/\I m s₃) (fun _ _=>False) s₂) (fun _ _=>False) s₀) (fun _ _=>False) s₁) (fun _ _=>False) s)
  (n:Nat) (h:I n s):T5 (Ru prog w) A (.compLoop (.ListComp elt [⟨target,iter,ifs,0⟩] scope pos) 0 it acc env) R s:=by
 have no:∀ {E:Value->Ra->Prop} (x:Value) (s':Ra),(fun (_:Value) (_:Ra)=>False) x s'->E x s':=fun _ _ z=>z.elim
 refine Zk rfl I (fun n s hI=>?_) n h
 refine (show Rt (Ru prog w) A ((Zj (.ListComp elt [⟨target,iter,ifs,0⟩] scope pos) 0 it acc env).onRaise (fun x=>do U4 x env; Yj x)) _ _ s from ZS ?_)
 rw[compTurn_list]
 refine Q9 (UW (Q9 (Su (turn n s hI) (fun r s₁ h₁=>?_) no)))
 cases r with
 | none=>exact Rj h₁
 | some v =>
  refine Q9 (Su h₁ (fun _ s₀ h₀=>Q9 (Su h₀ (fun _ s₂ h₂=>Q9 (Su h₂ (fun ok s₃ h₃=>?_) no)) no)) no)
  cases ok with
  | false=>exact Rj ⟨rfl,h₃⟩
  | true=>exact Q9 (Q9 (Su h₃ (fun x s₄ h₄=>Q9 (Su h₄ (fun _ s₅ h₅=>Rj (Rj ⟨rfl,h₅⟩)) no)) no))
def fZ (D:Addr) (σ0:St) (J:It) (g:TG) (tt:TT) (te:TE) (H1:Hp) (Q:Hp->Prop):Prop :=
 ∃ W:Nat->Nat->List V->St->Hp->Prop,(∃ m,W 0 m [] σ0 (upd H1 D (.lst []))) ∧
  ∀ i m ys σ' H',W i m ys σ' H'->H' D=some (.lst ys)/\((J.stop i H'/\Q H')∨(J.go i H'/\∃ N:List V->St->Hp->Prop,(∀ zs σ2 H2,N zs σ2 H2->∃ m',m' < m/\W (i+1) m' zs σ2 H2) ∧
   ∀ x H2,J.yld i H' x H2->g x σ' H2 fun σ3 H3=>tt σ3 H3 fun b H4=>if b=true then te σ3 H4 fun y H5=>H5 D=some (.lst ys)/\ys.length < sizeLine/\N (ys++[y]) σ3 (upd H5 D (.lst (ys++[y]))) else N ys σ3 H4))
def Fg (n:Nat) (cap:List Nat) (σ:St):St:=Rq n none++cap.map fun i=>(σ[i]?).join
def Oa (n:Nat) (cap:List Nat) (wi:TI) (g:TG) (tt:TT) (te:TE):TE:=fun σ H Q=>wi σ H fun J H1=>∀ D,H1 D=none->fZ D (Fg n cap σ) J g tt te H1 fun H2=>Q (.ref D) H2
section
variable {X:Cx} {elt tg iter:Expr} {ifs:List Expr} {scope:Va} {pos:Wi} {L F:List Str} {cap:List Nat} {wi:TI} {g:TG} {tt:TT} {te:TE}
theorem tu {pins:List (Addr × U3)} {σ:St} {H:Hp} {s:Ra} (I:Inv X pins σ H s) {b:Addr} (h1:b≠X.env.locals) (h2:b ∉ X.fs):b ∉ frs X.stack:=fun z=>(List.mem_cons.mp (I.qm b z)).elim h1 h2
theorem mQ {cl:List (Str × Addr)} {pins:List (Addr × U3)} {σ:St} {H:Hp} {s:Ra} {fp:List Addr} {h₁:Tf} {tk:Nat} (ok:jP X scope F cap) (I:Inv X pins σ H s) (hfp:∀ b∈fp,sU X pins H b/\b < s.heap.objs.size)
  (sub:∀ n c,cl.lookup n=some c->X.env.cells.lookup n=some c) (all:∀ y∈scope.names,y.2 = .free->∃ c,cl.lookup y.1=some c)
  (ns:h₁.Ns s.heap.objs.size fun _=>none) (kp:∀ b o,s.heap.get? b=some o->h₁.get? b=some o) :
  Inv (aZ X scope cl s.heap.objs.size (L++F) s H fp) [] (Fg L.length cap σ) H { s with heap:=h₁,toks:=tk }:=by
 have frk:∀ x,scope.names.lookup x=some .free->X.env.kindOf x=some .cell∨X.env.kindOf x=some .free:=fun x e=>ok.fr (x,.free) (Ti e) rfl
 have okX:(aZ X scope cl s.heap.objs.size (L++F) s H fp).Ok:=by
  refine⟨I.ok.mod,ok.kind,I.ok.glob,I.ok.blt,Rh _,fun x y c e1 e2=>I.ok.inj x y c (sub x c e1) (sub y c e2),fun x hx=>?_,fun x c hx _=>?_,I.ok.hd,I.ok.frames,.inl rfl,fun b hb=>?_,I.bs,RP I.ok.bsz I.sz,fun b o e hb=>?_,fun b hb=>?_,I.stack,I.wR⟩
  ·have e:scope.names.lookup x=some .free:=by
    rcases hx with hx | hx
    ·rcases wL (env:=X.env) (show _=some YX from hx) with e | e
     ·exact absurd rfl (ok.cell _ (Ti e))
     ·exact e
    ·rcases wL (env:=X.env) (show _=some Ur from hx) with e | e <;> exact e
   exact all (x,.free) (Ti e) rfl
  ·exact absurd (show false=true from hx) Rv
  ·exact⟨RX (hfp b hb).2,fun x c e=>(hfp b hb).1.2.2.2.2.1 x c (sub x c e)⟩
  ·obtain⟨_,_,_,f3,_⟩:=(hfp b hb).1
   rcases f3 with z | z
   ·exact I.ok.noex b o e z
   ·exact absurd (Rm (Ro e) (RP I.ok.bsz z)) (Sx _)
  ·obtain⟨_,f1,f2,_⟩:=(hfp b hb).1
   exact tu I f1 f2
 refine⟨okX,rfl,I.bare,Un.kept kp,⟨_,ns,fun i x v e1 e2 e3=>?_⟩,fun x c e=>?_,I.hok.fresh (Rh _),fun x c e=>I.freeC x c (sub x c e),fun p hp=>absurd (show p∈([]:List (Addr × U3)) from hp) (by simp),I.hok.kept kp,?_⟩
 ·have e1:(L++F)[i]? = some x:=e1
  have e2:(Rq L.length none++cap.map fun i=>(σ[i]?).join)[i]? = some (some v):=e2
  have hL:¬ i < L.length:=fun hi=>by
   rw[List.getElem?_append_left (by simpa using hi),XR] at e2
   split at e2 <;> cases e2
  have hi:L.length<=i:=Nat.le_of_not_lt hL
  rw[Ua hi] at e1
  rw[Ua (by simpa using hi),UJ,Rz] at e2
  obtain⟨j,hj,hN,hk⟩:=ok.at' _ _ e1
  rw[hj] at e2
  have e4:(σ[j]?).join=some v:=by simpa using e2
  have e5:σ[j]? = some (some v):=by
   cases q:σ[j]? with
   | none=>rw[q] at e4; cases e4
   | some a=>rw[q] at e4; exact congrArg some e4
  obtain⟨m,hn,hl⟩:=I.loc
  have kd:=frk x hk
  obtain⟨u,r,lk⟩:=hl j x v hN e5 (kd.elim (fun z=>.inr (.inl z)) fun z=>.inr (.inr z))
  obtain⟨c,hc,hcell⟩:∃ c,X.env.cells.lookup x=some c/\s.heap.IsCell c (some u):=by
   rcases lk with⟨z,_⟩ | ⟨_,c,z1,z2⟩
   ·rcases kd with y | y <;> (rw[y] at z; cases z)
   ·exact⟨c,z1,z2⟩
  obtain⟨c',hc'⟩:=all (x,.free) (Ti hk) rfl
  have ec:c'=c:=by
   have:=sub x c' hc'
   rw[hc] at this
   exact (RQ this).symm
  subst ec
  obtain⟨o,ho,hd⟩:=hcell
  exact⟨u,r,.inr ⟨(Ek (env:=X.env) hk),c',hc',o,kp _ _ ho,hd⟩⟩
 ·obtain⟨v,o,ho,hd⟩:=I.cell x c (sub x c e)
  exact⟨v,o,kp _ _ ho,hd⟩
 ·show (Rq L.length (none:Option V)++cap.map fun i=>(σ[i]?).join).length=(L++F).length
  rw[Rf,Rf,UJ,Q8,ok.len]
theorem zy {cl:List (Str × Addr)} {pins:List (Addr × U3)} {σ:St} {s2:Ra} {H2:Hp} {it:Addr} {fp:List Addr} {tn:Nat->Tf->Prop} {J:It} {use:Option (Value->Sem Unit)} {QQ:Value->Ra->Prop} {Z:Hp->Prop} {E:Value->Ra->Prop}
  (hc:X.calm=true) (ok:jP X scope F cap)
  (sub:∀ n c,cl.lookup n=some c->X.env.cells.lookup n=some c) (all:∀ y∈scope.names,y.2 = .free->∃ c,cl.lookup y.1=some c)
  (hg:∀ cl C s H fp,PG (aZ X scope cl C (L++F) s H fp) tg g) (ht:∀ cl C s H fp,PTs (aZ X scope cl C (L++F) s H fp) ifs tt) (he:∀ cl C s H fp,PE (aZ X scope cl C (L++F) s H fp) elt te)
  (I2:Inv X pins σ H2 s2) (T:Turn X.prog X.w X.K tg J fp it tn) (st2:tn 0 s2.heap) (f2:∀ b∈fp,sU X pins H2 b)
  (q2:fZ s2.heap.objs.size (Fg L.length cap σ) J g tt te H2 Z)
  (fin:∀ (C:Addr) (s':Ra) (H':Hp),Z H'->Inv X pins σ H' s'->(∃ m,s'.heap.Ns C m)->H' C=none->C≠X.env.locals->X.s₀.heap.objs.size<=C->(∀ x c,X.env.cells.lookup x=some c->c≠C)->(∀ p∈X.pn++pins,p.1≠C) →
   Wk (Ru X.prog X.w) X.A E use QQ (.ref s2.heap.objs.size) C (.ok .next) s') :
  Rt (Ru X.prog X.w) X.A (newList []) (fun acc s₃=>Rt (Ru X.prog X.w) X.A (newFunctionEnv scope X.env.globals cl [] X.env.qual none .none (some X.env)) (fun cenv s₄ =>
   T5 (Ru X.prog X.w) X.A (.compStart (.ListComp elt [⟨tg,iter,ifs,0⟩] scope pos) 0 (.ref it) acc { cenv with scope:=relabel scope X.env }) (Wk (Ru X.prog X.w) X.A E use QQ acc cenv.locals) s₄) E s₃) E s2:=by
 have hD:H2 s2.heap.objs.size=none:=I2.fresh
 refine SN (Xa ok.cell (by intro y hy; simp at hy) (fun h₁ hns₁ hsb₁=>?_) ok.kind)
 dsimp only at hns₁ hsb₁ ⊢
 have I3:Inv X pins σ (upd H2 s2.heap.objs.size (.lst [])) { s2 with heap:=s2.heap.push { cls:=.type "list",data:=.seq ([]:List Value).toArray } }:=I2.M8 (t':=s2.toks) (ys:=[]) (its:=[]) .nil (Sd _)
 have blt:∀ b∈fp,b < s2.heap.objs.size:=fun b hb=>let ⟨_,e,_⟩:=T.obj 0 _ st2 b hb; Ro e
 have szC:(s2.heap.push { cls:=.type "list",data:=.seq ([]:List Value).toArray }).objs.size=s2.heap.objs.size+1:=Uy _ _
 generalize hs3:({ s2 with heap:=s2.heap.push { cls:=.type "list",data:=.seq ([]:List Value).toArray } }:Ra)=s3 at I3
 have es3:s3.heap=s2.heap.push { cls:=.type "list",data:=.seq ([]:List Value).toArray }:=by rw[← hs3]
 have eos:s3.os=s2.os:=by rw[← hs3]
 have fok:∀ b∈fp,sU X pins (upd H2 s2.heap.objs.size (.lst [])) b/\b < s3.heap.objs.size:=fun b hb=>by
  obtain⟨f0,fr⟩:=f2 b hb
  refine⟨⟨by rw[aR (RX (blt b hb))]; exact f0,fr⟩,?_⟩
  rw[es3,szC]
  exact U5 (blt b hb)
 have hkp:∀ b o,s3.heap.get? b=some o->h₁.get? b=some o:=fun b o e=>by
  have e':b < s3.heap.objs.size:=Ro e
  rw[es3] at e e'
  exact (hsb₁.2 b (RX e')).trans (Rb _ e)
 have hns:h₁.Ns s3.heap.objs.size fun _=>none:=by
  rw[es3]
  exact hns₁
 have I4:∀ tk,Inv (aZ X scope cl s3.heap.objs.size (L++F) s3 (upd H2 s2.heap.objs.size (.lst [])) fp) [] (Fg L.length cap σ) (upd H2 s2.heap.objs.size (.lst [])) { s3 with heap:=h₁,toks:=tk }:=fun tk =>
  mQ (L:=L) ok I3 fok sub all hns hkp
 have stat:∀ {H':Hp},(∀ b∈fp,H' b=none)->∀ b∈fp,sU (aZ X scope cl s3.heap.objs.size (L++F) s3 (upd H2 s2.heap.objs.size (.lst [])) fp) [] H' b:=fun {H'} hn b hb=>by
  obtain⟨⟨_,g1,g2,g3,g4,g5⟩,g6⟩:=fok b hb
  exact⟨hn b hb,RX g6,tu I3 g1 g2,.inl hb,fun x c e=>g4 x c (sub x c e),fun p hp=>absurd (show p∈([]:List (Addr × U3)) from hp) (by simp)⟩
 have loop:∀ tk,T5 (Ru X.prog X.w) X.A (.compLoop (.ListComp elt [⟨tg,iter,ifs,0⟩] scope pos) 0 (.ref it) (.ref s2.heap.objs.size) (Xm scope cl s3.heap.objs.size X.env))
   (Wk (Ru X.prog X.w) X.A E use QQ (.ref s2.heap.objs.size) s3.heap.objs.size) { s3 with heap:=h₁,toks:=tk }:=fun tk=>by
  obtain⟨W,⟨m0,w0⟩,turn⟩:=q2
  have st3:tn 0 h₁:=T.keep 0 _ _ st2 fun b hb o e=>hkp b o (by rw[es3]; exact Rb _ e)
  refine z7 (fun n s'=>∃ i ys σ' H',Inv (aZ X scope cl s3.heap.objs.size (L++F) s3 (upd H2 s2.heap.objs.size (.lst [])) fp) [] σ' H' s'/\tn i s'.heap/\(∀ b∈fp,H' b=none)/\W i n ys σ' H') ?_ m0
   ⟨0,[],_,_,I4 tk,st3,fun b hb=>(fok b hb).1.1,w0⟩
  rintro n s5 ⟨i,ys,σ5,H5,I5,st5,fr5,w5⟩
  obtain⟨hDl,alt⟩:=turn i n ys σ5 H5 w5
  rcases alt with⟨stop,qz⟩ | ⟨go,N,hN,step⟩
  ·refine thn (T.done (aZ X scope cl s3.heap.objs.size (L++F) s3 (upd H2 s2.heap.objs.size (.lst [])) fp) rfl rfl rfl hc i [] s5 σ5 H5 _ I5 (stat fr5) st5 stop) fun r s6 ⟨hr,I6⟩=>?_
   subst hr
   have un:Un (frs X.stack) fp H2 H5 s2.heap s6.heap:=by
    have u1:Un (frs X.stack) fp H2 (upd H2 s2.heap.objs.size (.lst [])) s2.heap s3.heap:=by
     rw[es3]
     exact Un.laid (fun _ _ q=>Rb _ q) (Rh _) hD
    exact u1.trans I6.base
   have J1:Inv X pins σ H5 s6:=I2.call' (I6.os.trans eos) un I6.hok I6.bare fun b hb=>by
    obtain⟨_,g1,_,g3,g4,g5⟩:=f2 b hb
    exact⟨g3,g1,g4,g5⟩
   have hC:s2.heap.objs.size<=s3.heap.objs.size:=by rw[es3,szC]; exact Ud _
   obtain⟨m,hm,_⟩:=I6.loc
   refine fin s3.heap.objs.size s6 H5 qz J1 ⟨m,hm⟩ I6.free (Vx (Rm I2.lt hC)) (RP I2.sz hC) (fun x c e z=>?_) (fun p hp z=>?_)
   ·obtain⟨v,q⟩:=I2.cell x c e
    exact absurd (Rm q.lt (by rw[z]; exact hC)) (Sx _)
   ·exact absurd (Rm (Ro (I2.pin p hp).1) (by rw[z]; exact hC)) (Sx _)
  ·refine thn (T.item (aZ X scope cl s3.heap.objs.size (L++F) s3 (upd H2 s2.heap.objs.size (.lst [])) fp) rfl rfl rfl hc i [] s5 σ5 H5 _ I5 (stat fr5) st5 go) fun r s6 ⟨u,hr,h6⟩=>?_
   subst hr
   refine thn h6 fun _ s7 ⟨x,H7,I7,r7,y7,st7,fr7⟩=>?_
   have I7':=I7.pinned (stat fr7) (T.obj _ _ st7)
   refine thn (hg _ _ _ _ _ _ s7 σ5 H7 x u _ I7' r7 (step x H7 y7)) fun _ s8 ⟨σ8,H8,I8,q8⟩=>?_
   have XJ:∀ {σ9:St} {H9:Hp} {s9:Ra} {zs:List V},Inv (aZ X scope cl s3.heap.objs.size (L++F) s3 (upd H2 s2.heap.objs.size (.lst [])) fp) ([]++lK fp s7.heap) σ9 H9 s9->N zs σ9 H9 →
     ∃ m,m < n/\∃ i ys σ' H',Inv (aZ X scope cl s3.heap.objs.size (L++F) s3 (upd H2 s2.heap.objs.size (.lst [])) fp) [] σ' H' s9/\tn i s9.heap/\(∀ b∈fp,H' b=none)/\W i m ys σ' H':=fun {σ9 H9 s9 zs} I9 n9=>by
    obtain⟨m',hm,w9⟩:=hN zs σ9 H9 n9
    refine⟨m',hm,i+1,zs,σ9,H9,I9.iK,T.keep _ _ _ st7 fun b hb o e=>(I9.pin (b,o) (RC _ (RC _ (cN hb e)))).1,fun b hb=>?_,w9⟩
    obtain⟨o,e,d⟩:=T.obj _ _ st7 b hb
    exact (I9.pin (b,o) (RC _ (RC _ (cN hb e)))).2.1
   refine thn (ht _ _ _ _ _ _ s8 σ8 H8 _ I8 q8) fun okb s9 ⟨H9,I9,q9⟩=>?_
   cases okb with
   | false =>
    rw[if_neg Rv] at q9 ⊢
    exact XJ I9 q9
   | true =>
    rw[if_pos rfl] at q9 ⊢
    refine thn (he _ _ _ _ _ _ s9 σ8 H9 _ I9 q9) fun y s10 ⟨yv,H10,I10,r10,e10,z10,n10⟩=>?_
    refine thn (dw _ s10 σ8 H10 (.ref s2.heap.objs.size) [yv] (.ref s2.heap.objs.size) [y] (fun _ H'=>N (ys++[yv]) σ8 H') I10 rfl (.cons r10 .nil) ⟨_,ys,yv,rfl,rfl,e10,z10,n10⟩) fun _ s11 ⟨_,H11,I11,_,n11⟩=>?_
    exact XJ I11 n11
 have eC:(s2.heap.push { cls:=.type "list",data:=.seq ([]:List Value).toArray }).objs.size=s3.heap.objs.size:=by rw[es3]
 have goal:∀ tk,T5 (Ru X.prog X.w) X.A (.compStart (.ListComp elt [⟨tg,iter,ifs,0⟩] scope pos) 0 (.ref it) (.ref s2.heap.objs.size) (Xm scope cl s3.heap.objs.size X.env))
   (Wk (Ru X.prog X.w) X.A E use QQ (.ref s2.heap.objs.size) s3.heap.objs.size) { s3 with heap:=h₁,toks:=tk }:=fun tk =>
  XX (loop tk) (T.self _ 0 _ _ _ (T.keep 0 _ _ st2 fun b hb o e=>hkp b o (by rw[es3]; exact Rb _ e)) (loop tk))
 have g0:=goal (s2.toks+([]:List (Str × Value)).length)
 subst hs3
 exact g0
theorem eG (hc:X.calm=true) (ok:jP X scope F cap) (hi:PI X tg iter wi)
  (hg:∀ cl C s H fp,PG (aZ X scope cl C (L++F) s H fp) tg g) (ht:∀ cl C s H fp,PTs (aZ X scope cl C (L++F) s H fp) ifs tt) (he:∀ cl C s H fp,PE (aZ X scope cl C (L++F) s H fp) elt te)
  (hs:∀ x,Uu iter X.env x=pure x:=by intro _; rfl):PE X (.ListComp elt [⟨tg,iter,ifs,0⟩] scope pos) (Oa L.length cap wi g tt te):=by
 intro pins s σ H Q I h
 obtain⟨cl,e1,e2,e3⟩:=qN (scope:=scope) (env:=X.env) (fun y hy hf=>I.ok.has _ (ok.fr y hy hf))
 rw[eval_ListComp]
 refine Wj (use:=none) rfl hs e1 ok.kind ok.nms (thn (hi pins s σ H _ I h) fun v s1 h1=>thn h1 fun itv s2 h2=>?_)
 obtain⟨it,fp,tn,J,H2,e,I2,T,st2,f2,q2⟩:=h2
 subst e
 refine zy (Z:=fun H'=>Q (.ref s2.heap.objs.size) H') hc ok e2 e3 hg ht he I2 T st2 f2 (q2 _ I2.fresh) fun C s' H' z J m hCf hCl hCs hCc hCp=>?_
 ·obtain⟨m,hm⟩:=m
  exact⟨m,hm,fun h' hs'=>⟨.ref _,H',J.turned (t':=s'.toks) (fun b o hb e=>(hs'.2 b hb).trans e) hCf hCl (.inr hCs) hCc hCp,rfl,z⟩⟩
def Mx (n:Nat) (cap:List Nat) (wi:TI) (g:TG) (tt:TT) (te:TE) (j:Nat):TS:=fun D σ H=>wi σ H fun J H1=>∀ d,H1 d=none->fZ d (Fg n cap σ) J g tt te H1 fun H2=>D.nx (σ.set j (some (.ref d))) H2
theorem qW {j:Nat} {y:Str} {py spos:Wi} (hN:X.N.Nodup) (hj:X.N[j]? = some y) (hy:Loc X.env.scope y) (hc:X.calm=true) (ok:jP X scope F cap) (hi:PI X tg iter wi)
  (hg:∀ cl C s H fp,PG (aZ X scope cl C (L++F) s H fp) tg g) (ht:∀ cl C s H fp,PTs (aZ X scope cl C (L++F) s H fp) ifs tt) (he:∀ cl C s H fp,PE (aZ X scope cl C (L++F) s H fp) elt te)
  (hsw:ZD (.ListComp elt [⟨tg,iter,ifs,0⟩] scope pos) (some (.Name y py)) spos.line X.env=pure true:=by rfl)
  (hs:∀ x,Uu iter X.env x=pure x:=by intro _; rfl) (hf:X.fn y=true∨X.env.scope.names.lookup y=some .local:=by first | exact .inl rfl | exact .inr rfl | assumption) :
  PS X (.Assign [.Name y py] (.ListComp elt [⟨tg,iter,ifs,0⟩] scope pos) spos) (Mx L.length cap wi g tt te j):=by
 intro pins s σ H D I h
 obtain⟨cl,e1,e2,e3⟩:=qN (scope:=scope) (env:=X.env) (fun y hy hf=>I.ok.has _ (ok.fr y hy hf))
 rw[exec_Assign_Name_used _ _ _ _ hsw]
 refine Q9 (UW (Q9 ?_))
 show Rt (Ru X.prog X.w) X.A (do let _ ← comprehension (.ListComp elt [⟨tg,iter,ifs,0⟩] scope pos) scope X.env _ (newList []) false (UG iter X.env) (some (Xz (.Name y py) X.env))) _ _ s
 refine Q9 (Su (Wj (use:=some (Xz (.Name y py) X.env)) (Q:=fun _ s'=>SP X pins D .next s') rfl hs e1 ok.kind ok.nms
  (thn (hi pins s σ H _ I h) fun v s1 h1=>thn h1 fun itv s2 h2=>?_)) (fun _ s' hq=>Rj (Rj hq)) fun _ _ e=>e)
 obtain⟨it,fp,tn,J,H2,e,I2,T,st2,f2,q2⟩:=h2
 subst e
 refine zy (Z:=fun H'=>D.nx (σ.set j (some (.ref s2.heap.objs.size))) H') hc ok e2 e3 hg ht he I2 T st2 f2 (q2 _ I2.fresh) fun C s' H' z J m hCf hCl hCs hCc hCp=>?_
 obtain⟨m,hm⟩:=m
 refine wpAny_assign_Name (wD J hN hj hy (v:=.ref s2.heap.objs.size) rfl (fun s5 I5 hs5=>?_) hf)
 obtain⟨a,sb,ha⟩:=hs5
 have hne:C≠a:=by
  rcases ha with rfl | ha
  ·exact hCl
  ·exact Tw (hCc y a ha)
 exact⟨m,hm.sameBut sb hne,fun h' hs'=>⟨_,H',I5.turned (t':=s5.toks) (fun b o hb e=>(hs'.2 b hb).trans e) hCf hCl (.inr hCs) hCc hCp,z⟩⟩
end
end L2
namespace L2
open PySem PySem.Spec PyProof.Rows
structure Df (P:RV) (w:Sv) (K:RD) (mg:Str->Option Value) (base:Tf) (x:Str) (k:Nat) (ps:List Str) (sp:Sp):Prop where
 ex:∃ (f:Addr) (fd:Tp),dB P w K mg base CX0 k f fd ps sp/\mg x=some (.ref f)/\Ve K (.ref f)=true/\Binds K fd ps []
section
variable {X:Cx} {k j:Nat} {x:Str} {ps:List Str} {sp:Sp} {p pos:Wi} {e:Expr} {es:List Expr} {t:TA}
theorem bF (D:Df X.prog X.w X.K X.mg X.base x k ps sp) (hr:gB j X.A) (ha:PA X (e::es) t) (hk:k<=j:=by first | decide | exact Rh _ | lia) (hg:Gl X x:=by rfl)
  (hdb:(x == ("__debug__" : Str))=false:=by decide) (he:R9 (e::es) X.env=(false,UG e X.env)::R9 es X.env:=by rfl) (hpl:(We pos (R9 es X.env)).any (·.1)=false:=by rfl) :
  PE X (.Call (.Name x p) (e::es) [] pos) (yd sp [] E0 t):=by
 obtain⟨f,fd,F,hm,hkp,hb⟩:=D.ex
 exact CV F (hr.mono hk) hg hm hkp hb .nil JN ha hdb he hpl
theorem lD {i:Int} {tk:ZK} (hm:X.mg x=some (.int i tk)) (hg:Gl X x:=by rfl) (hd:(x == ("__debug__" : Str))=false:=by decide):PE X (.Name x pos) (tC (.int i)):=xW hg hm ⟨_,rfl⟩ hd
theorem jB {T:String} (hm:X.mg x=none) (hv:Tj x=some (.type T)) (hg:Gl X x:=by rfl) (hn:x≠"__name__":=by decide) (hd:(x == ("__debug__" : Str))=false:=by decide):PE X (.Name x pos) (tC (.ty T)):=Ji hg hm hv rfl hn hd
def uP (K:R7):List V->Hp->VK->Prop:=fun xs H Q=>∃ (x:V) (T:String) (t:Value) (b:Bool),xs=[x,.ty T]/\Ag K H x t/\Vt K t (.type T)=some b/\Q (.bl b) H
theorem cz:je X (.builtin "isinstance") (uP X.K):=by
 intro pins s σ H xs us Q I r h
 obtain⟨x,T,t,b,rfl,ty,e,q⟩:=h
 obtain⟨u,v,rfl,ru,rv⟩:=vals2 r
 cases (show v=VN T from rv)
 exact BR I ru ty e fun tk=>⟨.bl b,H,I.tok tk,rfl,q⟩
def nZ (K:R7):List V->Hp->VK->Prop:=fun xs H Q=>∃ (p:Addr) (ys:List V),xs=[.ref p]/\(SqL K H p ys∨SqT K H p ys)/\Q (.int ys.length) H
theorem bf:je X (.builtin "len") (nZ X.K):=vY
def Bo (K:R7):List V->Hp->VK->Prop:=fun xs H Q=>∃ (p:Addr) (ys:List V),xs=[.ref p]/\(SqL K H p ys∨SqT K H p ys)/\∀ l,H l=none->Q (.ref l) (upd H l (.lst ys))
theorem zV:je X (.type "list") (Bo X.K):=vZ
def gq (K:R7):List V->Hp->VK->Prop:=fun xs H Q=>∃ (p:Addr) (ys:List V),xs=[.ref p]/\((SqL K H p ys/\∀ l,H l=none->Q (.ref l) (upd H l (.tup ys)))∨(SqT K H p ys/\Q (.ref p) H))
theorem bD:je X (.type "tuple") (gq X.K):=uv
theorem jY:∀ bs:List Bool,(Uc bs.length).all (fun i=>bs.getD i true)=bs.all fun b=>b
 | []=>rfl
 | b::r=>by
  have ih:=jY r
  rw[Rg,Yc,Wl,Xj,Wl,← ih]
  rfl
def El (K:R7):List V->Hp->VK->Prop:=fun xs H Q=>∃ (p:Addr) (bs:List Bool),xs=[.ref p]/\SqL K H p (bs.map V.bl)/\Q (.bl (bs.all fun b=>b)) H
theorem lE (hc:X.calm=true):je X (.builtin "all") (El X.K):=by
 intro pins s σ H xs us Q I r h
 obtain⟨p,bs,rfl,hq,q⟩:=h
 obtain⟨u,rfl,ru⟩:=vals1 r
 cases ru
 obtain⟨its,rv,pl,hz⟩:=I.list hq
 have hlen:bs.length=its.length:=by simpa using rv.length
 refine call_all_walk (Zh pl.isList ?_)
 have I1:Inv X pins σ H { s with heap:=s.heap.push { cls:=.type "list_iterator",data:=.fields #[.ref p,.int 0 0] } }:=I.kept (t':=s.toks) fun b o e=>Rb _ e
 have hne:p≠s.heap.objs.size:=by
  obtain⟨o,ho,_⟩:=pl.isList
  exact RX (Ro ho)
 refine⟨s.heap.objs.size,_,_,_,_,_,fun i=>bs.getD i true,rfl,Walks.list (A:=X.A.in1) (I.ok.hd hc) s.heap.objs.size p hne its.toArray,⟨⟨_,RK _ rfl,rfl,rfl⟩,?_⟩,?_,fun h' tk hk=>?_⟩
 ·obtain⟨o,ho,hr⟩:=pl.isList
  exact⟨o,Rb _ ho,hr⟩
 ·intro i v s' Q' E' hP hQ
  have hP:its[i]? = some v:=by simpa using hP
  have hi:i < bs.length:=by
   rw[hlen]
   exact (List.getElem?_eq_some_iff.mp hP).1
  obtain⟨u',hu',ru'⟩:=rv.get (i:=i) (x:=V.bl bs[i]) (by rw[Rz,Rn hi]; rfl)
  rw[hP] at hu'
  cases hu'
  cases (show v=Y7 bs[i] from ru')
  refine Us ?_
  have eg:bs.getD i true=bs[i]:=by rw[RZ,Rn hi]; rfl
  have hQ':Q' (bs.getD i true) s':=hQ
  rw[eg] at hQ'
  exact hQ'
 ·have f:=I.J4 (b:=s.heap.objs.size) (H':=H) (Rh _) I.fresh
  have eall:(Uc its.toArray.size).all (fun i=>bs.getD i true)=bs.all fun b=>b:=by
   have el:its.toArray.size=bs.length:=by rw[Ry,hlen]
   rw[el]
   exact jY bs
  rw[eall]
  exact⟨.bl _,H,I1.turned (t':=tk) (it:=s.heap.objs.size) (fun b o hb e=>hk b o (by simpa using hb) e) f.1 f.2.1 f.2.2.2.1 f.2.2.2.2.1 f.2.2.2.2.2,rfl,q⟩
end
end L2
namespace L2
open PySem PySem.Spec PyProof.Rows
def Ds (osc:Va) (oN:List Str) (sc:Va) (F:List Str) (cap:List Nat):Bool :=
 decide (sc.kind = .function) && sc.names.all (fun y=>!decide (y.2 = .cell)) && sc.names.all (fun y=>!decide (y.2 = .local) || decide (sc.names.lookup y.1=some .local)) &&
 sc.names.all (fun y=>!decide (y.2 = .free) || decide (osc.names.lookup y.1=some .cell) || decide (osc.names.lookup y.1=some .free)) && decide (cap.length=F.length) &&
 (Uc F.length).all fun k=>(decide (F[k]? = none) || decide ((cap[k]?.bind fun i=>oN[i]?)=F[k]?)) && decide ((F[k]?.bind fun x=>sc.names.lookup x)=some .free)
theorem bU {X:Cx} {osc sc:Va} {oN F:List Str} {cap:List Nat} (ho:X.env.scope=osc) (hN:X.N=oN) (h:Ds osc oN sc F cap=true):jP X sc F cap:=by
 unfold Ds at h
 simp only[Rp] at h
 obtain⟨⟨⟨⟨⟨h1,h2⟩,h3⟩,h4⟩,h5⟩,h6⟩:=h
 refine⟨of_decide_eq_true h1,fun y hy e=>?_,fun y hy e=>?_,fun y hy e=>?_,of_decide_eq_true h5,fun k x e=>?_⟩
 ·have:=List.all_eq_true.mp h2 y hy
  rw[e] at this
  exact absurd this (by decide)
 ·have:=List.all_eq_true.mp h3 y hy
  rw[decide_eq_true e] at this
  exact of_decide_eq_true (by simpa using this)
 ·have:=List.all_eq_true.mp h4 y hy
  rw[decide_eq_true e] at this
  have z:decide (osc.names.lookup y.1=some .cell)=true∨decide (osc.names.lookup y.1=some .free)=true:=by
   rw[Bool.not_true,Bool.false_or,VF] at this
   exact this
  show X.env.scope.names.lookup y.1=_∨X.env.scope.names.lookup y.1=_
  rw[ho]
  exact z.elim (fun q=>.inl (of_decide_eq_true q)) fun q=>.inr (of_decide_eq_true q)
 ·have hk:k < F.length:=(List.getElem?_eq_some_iff.mp e).1
  have q:=List.all_eq_true.mp h6 k (List.mem_range.mpr hk)
  rw[e,Rp] at q
  obtain⟨q1,q2⟩:=q
  have q1:(cap[k]?.bind fun i=>oN[i]?)=some x:=by
   rw[VF] at q1
   rcases q1 with z | z
   ·exact absurd (of_decide_eq_true z) (by simp)
   ·exact of_decide_eq_true z
  have q2:sc.names.lookup x=some .free:=of_decide_eq_true q2
  cases hc:cap[k]? with
  | none=>rw[hc] at q1; cases q1
  | some i =>
   rw[hc] at q1
   exact⟨i,rfl,by rw[hN]; exact q1,q2⟩
theorem bM {X:Cx} {scope:Va} {cl:List (Str × Addr)} {C:Addr} {N:List Str} {s:Ra} {H:Hp} {fp:List Addr} (h:N.Nodup):(aZ X scope cl C N s H fp).N.Nodup:=h
section
variable {K:R7} {a D:Addr} {xs:List V} {g:TG} {tt:TT} {te:TE} {H1:Hp} {Q:Hp->Prop} {σ0:St}
theorem fJ (Pv:Nat->List V->St->Hp->Prop) (h0:Pv 0 [] σ0 (upd H1 D (.lst []))) (hl:∀ i ys σ H,i<=xs.length->Pv i ys σ H->SqT K H a xs/\H D=some (.lst ys))
  (hs:∀ i ys x σ H,xs[i]? = some x->Pv i ys σ H->g x σ H fun σ3 H3=>tt σ3 H3 fun b H4=>if b=true then te σ3 H4 fun y H5=>H5 D=some (.lst ys)/\ys.length < sizeLine/\Pv (i+1) (ys++[y]) σ3 (upd H5 D (.lst (ys++[y]))) else Pv (i+1) ys σ3 H4)
  (hd:∀ ys σ H,Pv xs.length ys σ H->Q H):fZ D σ0 (Itt K a) g tt te H1 Q:=by
 refine⟨fun i m ys σ H=>m=xs.length - i/\i<=xs.length/\Pv i ys σ H,⟨xs.length,by simp,Sd _,h0⟩,?_⟩
 rintro i m ys σ H ⟨rfl,hi,p⟩
 obtain⟨q,qD⟩:=hl i ys σ H hi p
 refine⟨qD,?_⟩
 by_cases hlt:i < xs.length
 ·refine .inr ⟨⟨xs,xs[i],q,by simp [hlt]⟩,Pv (i+1),fun zs σ' H' p'=>⟨xs.length - (i+1),by lia,rfl,hlt,p'⟩,fun x H' y=>?_⟩
  obtain⟨e,y⟩:=y
  subst e
  exact hs i ys x σ _ (y xs q) p
 ·have e:i=xs.length:=by lia
  subst e
  exact .inl ⟨⟨xs,q,Rh _⟩,hd ys σ H p⟩
theorem eX (Pv:Nat->List V->St->Hp->Prop) (h0:Pv 0 [] σ0 (upd H1 D (.lst []))) (hl:∀ i ys σ H,i<=xs.length->Pv i ys σ H->SqL K H a xs/\H D=some (.lst ys))
  (hs:∀ i ys x σ H,xs[i]? = some x->Pv i ys σ H->g x σ H fun σ3 H3=>tt σ3 H3 fun b H4=>if b=true then te σ3 H4 fun y H5=>H5 D=some (.lst ys)/\ys.length < sizeLine/\Pv (i+1) (ys++[y]) σ3 (upd H5 D (.lst (ys++[y]))) else Pv (i+1) ys σ3 H4)
  (hd:∀ ys σ H,Pv xs.length ys σ H->Q H):fZ D σ0 (Itl K a) g tt te H1 Q:=by
 refine⟨fun i m ys σ H=>m=xs.length - i/\i<=xs.length/\Pv i ys σ H,⟨xs.length,by simp,Sd _,h0⟩,?_⟩
 rintro i m ys σ H ⟨rfl,hi,p⟩
 obtain⟨q,qD⟩:=hl i ys σ H hi p
 refine⟨qD,?_⟩
 by_cases hlt:i < xs.length
 ·refine .inr ⟨⟨xs,xs[i],q,by simp [hlt]⟩,Pv (i+1),fun zs σ' H' p'=>⟨xs.length - (i+1),by lia,rfl,hlt,p'⟩,fun x H' y=>?_⟩
  obtain⟨e,y⟩:=y
  subst e
  exact hs i ys x σ _ (y xs q) p
 ·have e:i=xs.length:=by lia
  subst e
  exact .inl ⟨⟨xs,q,Rh _⟩,hd ys σ H p⟩
theorem ig {lo:Int} {n:Nat} (Pv:Nat->List V->St->Hp->Prop) (h0:Pv 0 [] σ0 (upd H1 D (.lst []))) (hl:∀ i ys σ H,i<=n->Pv i ys σ H->H D=some (.lst ys))
  (hs:∀ i ys σ H,i < n->Pv i ys σ H->g (.int (lo+i)) σ H fun σ3 H3=>tt σ3 H3 fun b H4=>if b=true then te σ3 H4 fun y H5=>H5 D=some (.lst ys)/\ys.length < sizeLine/\Pv (i+1) (ys++[y]) σ3 (upd H5 D (.lst (ys++[y]))) else Pv (i+1) ys σ3 H4)
  (hd:∀ ys σ H,Pv n ys σ H->Q H):fZ D σ0 (Itr lo n) g tt te H1 Q:=by
 refine⟨fun i m ys σ H=>m=n - i/\i<=n/\Pv i ys σ H,⟨n,by simp,Sd _,h0⟩,?_⟩
 rintro i m ys σ H ⟨rfl,hi,p⟩
 refine⟨hl i ys σ H hi p,?_⟩
 by_cases hlt:i < n
 ·refine .inr ⟨hlt,Pv (i+1),fun zs σ' H' p'=>⟨n - (i+1),by lia,rfl,hlt,p'⟩,fun x H' y=>?_⟩
  obtain⟨e,y⟩:=y
  subst e y
  exact hs i ys σ _ hlt p
 ·have e:i=n:=by lia
  subst e
  exact .inl ⟨Rh _,hd ys σ H p⟩
end
structure Bt (mg:Str->Option Value):Prop where
 len_:mg "len" = none
 range_:mg "range" = none
 all_:mg "all" = none
 isinstance_:mg "isinstance" = none
 int_:mg "int" = none
 bool_:mg "bool" = none
 str_:mg "str" = none
 list_:mg "list" = none
 tuple_:mg "tuple" = none
 abs_:mg "abs" = none
 max_:mg "max" = none
 min_:mg "min" = none
 sum_:mg "sum" = none
 sorted_:mg "sorted" = none
 zip_:mg "zip" = none
 reversed_:mg "reversed" = none
 divmod_:mg "divmod" = none
 set_:mg "set" = none
 any_:mg "any" = none
 enumerate_:mg "enumerate" = none
theorem bW:Tj "len" = some (.builtin "len"):=PySem.boot_len
theorem zg:Tj "all" = some (.builtin "all"):=by decide+kernel
theorem aW:Tj "isinstance" = some (.builtin "isinstance"):=by decide+kernel
theorem zJ:Tj "abs" = some (.builtin "abs"):=by decide+kernel
theorem N6:Tj "max" = some (.builtin "max"):=by decide+kernel
theorem HQ:Tj "min" = some (.builtin "min"):=by decide+kernel
theorem jR:Tj "int" = some (.type "int"):=by decide+kernel
theorem xH:Tj "bool" = some (.type "bool"):=by decide+kernel
theorem n6:Tj "str" = some (.type "str"):=by decide+kernel
theorem xT:Tj "list" = some (.type "list"):=by decide+kernel
theorem bJ:Tj "tuple" = some (.type "tuple"):=by decide+kernel
theorem jO (K:R7) (T:String):Vt K (.type T) (.type T)=some true:=by
 unfold PySem.W.kitOne
 rw[if_pos (beq_self_eq_true _)]
theorem j0 (K:R7):Vt K (.type "int") (.type "bool")=some false:=by kernel_rfl
theorem pK (K:R7):Vt K (.type "bool") (.type "int")=some true:=by kernel_rfl
theorem Aq (K:R7):Vt K (.type "int") (.type "str")=some false:=by kernel_rfl
theorem xU (K:R7):Vt K (.type "bool") (.type "str")=some false:=by kernel_rfl
theorem uX (K:R7):Vt K (.type "tuple") (.type "str")=some false:=by kernel_rfl
theorem wV (K:R7):Vt K (.type "list") (.type "str")=some false:=by kernel_rfl
theorem nR (K:R7):Vt K (.type "tuple") (.type "int")=some false:=by kernel_rfl
theorem yl (K:R7):Vt K (.type "list") (.type "int")=some false:=by kernel_rfl
theorem lC (K:R7):Vt K (.type "tuple") (.type "list")=some false:=by kernel_rfl
theorem lV (K:R7):Vt K (.type "list") (.type "tuple")=some false:=by kernel_rfl
theorem zU (K:R7):Vt K (.type "str") (.type "int")=some false:=by kernel_rfl
theorem jx (K:R7):Vt K (.type "str") (.type "tuple")=some false:=by kernel_rfl
theorem jm (K:R7):Vt K (.type "int") (.type "tuple")=some false:=by kernel_rfl
end L2
namespace L2
open PySem PySem.Spec PyProof.Rows
inductive Dm where
 | non | bl (b:Bool) | int (i:Int) | str (x:Str) | tup (ds:List Dm) | lst (ds:List Dm)
mutual
def Dm.dep:Dm->Nat
 | .tup ds=>jb ds+1
 | .lst ds=>jb ds+1
 | _=>0
def jb:List Dm->Nat
 | []=>0
 | d::r=>max d.dep (jb r)
end
mutual
inductive Rep (H:Hp):V->Dm->Prop where
 | non:Rep H .non .non
 | bl (b:Bool):Rep H (.bl b) (.bl b)
 | int (i:Int):Rep H (.int i) (.int i)
 | str (x:Str):Rep H (.str x) (.str x)
 | tup {a:Addr} {xs:List V} {ds:List Dm}:H a=some (.tup xs)->xs.length<=100000->eN H xs ds->Rep H (.ref a) (.tup ds)
 | lst {a:Addr} {xs:List V} {ds:List Dm}:H a=some (.lst xs)->xs.length<=100000->eN H xs ds->Rep H (.ref a) (.lst ds)
inductive eN (H:Hp):List V->List Dm->Prop where
 | nil:eN H [] []
 | cons {v:V} {d:Dm} {vs:List V} {ds:List Dm}:Rep H v d->eN H vs ds->eN H (v::vs) (d::ds)
end
mutual
theorem Rep.mono {H H':Hp} (e:bc H H'):∀ {v:V} {d:Dm},Rep H v d->Rep H' v d
 | _,_,.non=>.non
 | _,_,.bl b=>.bl b
 | _,_,.int i=>.int i
 | _,_,.str x=>.str x
 | _,_,.tup h l r=>.tup (e _ _ h) l (eN.mono e r)
 | _,_,.lst h l r=>.lst (e _ _ h) l (eN.mono e r)
theorem eN.mono {H H':Hp} (e:bc H H'):∀ {vs:List V} {ds:List Dm},eN H vs ds->eN H' vs ds
 | _,_,.nil=>.nil
 | _,_,.cons h r=>.cons (Rep.mono e h) (eN.mono e r)
end
theorem eN.length {H:Hp}:∀ {vs:List V} {ds:List Dm},eN H vs ds->vs.length=ds.length
 | _,_,.nil=>rfl
 | _,_,.cons _ r=>by rw[Rg,Rg,eN.length r]
theorem eN.get {H:Hp}:∀ {vs:List V} {ds:List Dm} {i:Nat},eN H vs ds->i < vs.length->∃ v d,vs[i]? = some v/\ds[i]? = some d/\Rep H v d
 | _,_,_,.nil,h=>absurd h (Z2 _)
 | _,_,0,.cons h _,_=>⟨_,_,rfl,rfl,h⟩
 | _,_,i+1,.cons _ r,h=>by
  obtain⟨v,d,e1,e2,e3⟩:=eN.get (i:=i) r (Yb h)
  exact⟨v,d,by simpa using e1,by simpa using e2,e3⟩
theorem oU:∀ {ds:List Dm} {i:Nat} {d:Dm},ds[i]? = some d->d.dep<=jb ds
 | [],_,_,h=>by simp at h
 | d::r,0,_,h=>by
  cases (show some d=some _ from h)
  rw[jb]
  exact Nat.le_max_left _ _
 | d::r,i+1,_,h=>by
  rw[jb]
  exact RP (oU (i:=i) (ds:=r) (by simpa using h)) (Nat.le_max_right _ _)
theorem pY {H:Hp}:∀ ns:List Int,eN H (ns.map V.int) (ns.map Dm.int)
 | []=>.nil
 | n::r=>.cons (.int n) (pY r)
section
variable {X:Cx}
def Qn (K:R7):R2:=fun x y H Q=>∃ (a b:Addr) (xs:List V),x = .ref a/\y = .ref b/\SqL K H a xs/\SqL K H b []/\Q (.bl xs.isEmpty) H
theorem Oe (hu:X.A.units < cLine):OpR X (T6 .Eq) (Qn X.K):=by
 intro pins s σ H x y v u Q I rx ry h
 obtain⟨a,b,xs,rfl,rfl,ha,hb,q⟩:=h
 cases rx
 cases ry
 obtain⟨its,r1,p1,_⟩:=I.list ha
 obtain⟨its2,r2,p2,_⟩:=I.list hb
 cases r2
 cases r1 with
 | nil=>exact SeqAt.eq_listAt (e:=fun _=>true) p1.isList p2.isList rfl hu (fun j h1 _=>absurd h1 (by simp)) ⟨.bl true,H,I,rfl,q⟩
 | cons r t=>exact SeqAt.eq_list_lengthsAt p1.isList p2.isList (by simp) hu ⟨.bl false,H,I,rfl,q⟩
end
end L2
namespace L2
open PySem PySem.Spec PyProof.Rows
section
variable {prog:RV} {w:Sv} {A:Sh} {E:Value->Ra->Prop} {s:Ra}
end
theorem Inv.sZ {X:Cx} {pins:List (Addr × U3)} {σ:St} {H:Hp} {s:Ra} {h':Tf} {t':Nat} {ch:List Addr} (I:Inv X pins σ H s) (k:∀ b o,b ∉ ch->s.heap.get? b=some o->h'.get? b=some o) (hf:∀ b∈ch,sU X pins H b) :
  Inv X pins σ H { s with heap:=h',toks:=t' }:=by
 have nit:∀ b u,H b=some u->b ∉ ch:=fun b u e z=>by
  have:=(hf b z).1
  rw[this] at e; cases e
 refine I.step (g':=s.gens) (d':=s.drawn) (ch:=ch) (fun b hb=>let ⟨_,f1,_,f3,f4,f5⟩:=hf b hb; ⟨f3,f1,f4,f5⟩) (fun b o _ _ hc e _=>k b o hc e) (fun b o _ _ hc e _=>⟨o.slots,k b o hc e⟩) (fun _ _ _ _ n=>n)
  (fun b o hc e=>⟨o,k b o hc e⟩) (fun _ _ e=>e) (fun _ _ _ e=>e) (fun b ps e=>⟨#[],by rw[e]; simp⟩) (fun m hm=>?_) (fun b u e=>?_) I.bare
 ·obtain⟨o,es,ep,ho,r⟩:=hm
  exact⟨o,es,ep,k _ o (fun z=>(hf _ z).2.1 rfl) ho,r⟩
 ·refine (I.hok b u e).stay (fun c v hc q=>k c v ?_ q) (fun _ q=>q) fun _ _ q=>q
  rcases hc with z | z
  ·rw[z]; exact nit b u e
  ·exact nit c _ z
end L2
namespace L2
open PySem PySem.Spec PyProof.Rows
theorem qC:∀ ns ms:List Int,((Uc (min ns.length ms.length)).all (fun j=>ns.getD j 0 == ms.getD j 0) && ns.length == ms.length)=decide (ns=ms)
 | [],[]=>rfl
 | [],m::ms=>by rw[decide_eq_false (by simp)]; rfl
 | n::ns,[]=>by rw[decide_eq_false (by simp)]; rfl
 | n::ns,m::ms=>by
  have ih:=qC ns ms
  have e:min (n::ns).length (m::ms).length=min ns.length ms.length+1:=by rw[Rg,Rg]; lia
  have el:((n::ns).length == (m::ms).length)=(ns.length == ms.length):=by simp
  have e3:decide (n::ns=m::ms)=(n == m && decide (ns=ms)):=by
   by_cases h1:n=m
   ·subst h1
    by_cases h2:ns=ms
    ·subst h2; simp
    ·simp [h2]
   ·simp [h1]
  rw[e,Yc,Wl,Xj,el,e3,← ih,Bool.and_assoc]
  rfl
theorem f9 {X:Cx} {pos:Wi} {K:R7} {es:List Expr} {k:Nat} {t:TGs} (n:Nat) (hK:X.K=K) (hc:X.calm=true) (h:PGs X es t)
  (hn:(W6 es X.env).length=n:=by rfl) (hst:(W6 es X.env).findIdx? (·.1)=none:=by rfl):PG X (.Tuple es k pos) (Qh K n t):=by
 subst hK
 exact M9 hc h hn hst
section
variable {X:Cx}
def Nt (K:R7):R2:=fun x y H Q=>∃ (a b:Addr) (ns ms:List Int),x = .ref a/\y = .ref b/\SqT K H a (ns.map V.int)/\SqT K H b (ms.map V.int)/\Q (.bl (decide (ns=ms))) H
theorem ints_get {ns:List Int} {its:List Value} (i:Ue its ns) {j:Nat} (h:j < its.length):∃ t,its[j] = .int (ns.getD j 0) t:=by
 induction i generalizing j with
 | nil=>exact absurd h (Z2 _)
 | cons n t r ih =>
  cases j with
  | zero=>exact⟨t,rfl⟩
  | succ j =>
   obtain⟨u,e⟩:=ih (j:=j) (Yb h)
   exact⟨u,by simpa using e⟩
theorem K6 (hu:X.A.units < cLine):OpR X (T6 .Eq) (Nt X.K):=by
 intro pins s σ H x y v u Q I rx ry h
 obtain⟨a,b,ns,ms,rfl,rfl,ha,hb,q⟩:=h
 cases rx
 cases ry
 obtain⟨its,r1,p1,_⟩:=I.tuple ha
 obtain⟨its2,r2,p2,_⟩:=I.tuple hb
 have i1:Ue its ns:=intsAre_of r1
 have i2:Ue its2 ms:=intsAre_of r2
 have l1:=i1.length
 have l2:=i2.length
 refine SeqAt.eq_tupleAt (e:=fun j=>ns.getD j 0 == ms.getD j 0) (show s.heap.IsTuple a its.toArray from p1) (show s.heap.IsTuple b its2.toArray from p2) hu (fun j h1 h2=>?_) ?_
 ·obtain⟨t,e1⟩:=ints_get i1 (j:=j) (by simpa using h1)
  obtain⟨t',e2⟩:=ints_get i2 (j:=j) (by simpa using h2)
  rw[TQ,TQ,e1,e2]
  exact Xn _ _ _ _
 ·refine⟨.bl _,H,I,?_,q⟩
  have e:=qC ns ms
  have s1:its.toArray.size=ns.length:=by rw[Ry]; exact l1
  have s2:its2.toArray.size=ms.length:=by rw[Ry]; exact l2
  rw[s1,s2,e]
  rfl
def HX (K:R7):R2:=fun x y H Q=>∃ (a b:Addr) (xs ys:List V),x = .ref a/\y = .ref b/\SqT K H a xs/\SqT K H b ys/\xs.length+ys.length<=sizeLine ∧
 (xs=[]->Q (.ref b) H)/\(xs≠[]->ys=[]->Q (.ref a) H)/\(xs≠[]->ys≠[]->∀ p,H p=none->Q (.ref p) (upd H p (.tup (xs++ys))))
theorem GD:OpR X (VB .Add) (HX X.K):=by
 intro pins s σ H x y v u Q I rx ry h
 obtain⟨a,b,xs,ys,rfl,rfl,ha,hb,hz,q0,q1,q2⟩:=h
 by_cases hx:xs=[]
 ·subst hx
  cases rx
  cases ry
  obtain⟨its,r1,p1,_⟩:=I.tuple ha
  obtain⟨its2,r2,p2,_⟩:=I.tuple hb
  cases r1
  obtain⟨⟨c1,d1,dt1,sl1⟩,ho,hc,n,hd⟩:=id p1
  obtain⟨⟨c2,d2,dt2,sl2⟩,ho2,hc2,n2,hd2⟩:=id p2
  simp only at hc hd hc2 hd2
  subst hc hd hc2 hd2
  exact concat_meets ⟨_,ho,rfl⟩ ⟨_,ho2,rfl⟩ ZG seq_tuple_add X6 XN (XF _ _) (tuple_addW0 a b _ _ n n2 d1 d2 sl1 sl2 rfl) ⟨ho,ho2,⟨.ref b,H,I,rfl,q0 rfl⟩⟩
 ·exact JZ pins s σ H _ _ v u Q I rx ry ⟨a,b,xs,ys,rfl,rfl,ha,hb,hx,hz,q1 hx,q2 hx⟩
end
end L2
namespace L2
open PySem PySem.Spec PyProof.Rows
section
variable {X:Cx}
end
end L2
namespace L2
open PySem PySem.Spec PyProof.Rows
def Cp:List V->Hp->VK->Prop:=fun xs H Q=>(∃ i,xs=[.int i]/\Q (.int i) H)∨∃ k,xs=[.bl k]/\Q (.int (if k then 1 else 0)) H
end L2
namespace L2
open PySem
def Ris (xs:Array Nat):Prop:=xs.toList.Pairwise (· < ·)
theorem yD {xs:Array Nat} (h:Ris xs) {i j x y:Nat} (hij:i < j) (hi:xs[i]? = some x) (hj:xs[j]? = some y):x < y:=by
 rw[← UL] at hi hj
 obtain⟨li,ei⟩:=List.getElem?_eq_some_iff.mp hi
 obtain⟨lj,ej⟩:=List.getElem?_eq_some_iff.mp hj
 have:=List.pairwise_iff_getElem.mp h i j li lj hij
 rw[ei,ej] at this
 exact this
theorem uf {xs:Array Nat} (h:Ris xs) (j:Nat):∀ (fuel lo hi:Nat),hi - lo<=fuel->lo<=hi->hi<=xs.size->(∀ i x,i < lo->xs[i]? = some x->x < j)->(∀ i x,hi<=i->xs[i]? = some x->j<=x) →
  Wz xs j fuel lo hi<=xs.size/\(∀ i x,i < Wz xs j fuel lo hi->xs[i]? = some x->x < j)/\(∀ i x,Wz xs j fuel lo hi<=i->xs[i]? = some x->j<=x)
 | 0,lo,hi,hf,hl,hs,h1,h2=>by
  rw[Wz]
  have e:lo=hi:=by lia
  subst e
  exact⟨hs,h1,h2⟩
 | fuel+1,lo,hi,hf,hl,hs,h1,h2=>by
  rw[Wz]
  by_cases hlt:lo < hi
  ·rw[if_pos hlt]
   dsimp only
   have hm1:lo<=(lo+hi) / 2:=by lia
   have hm2:(lo+hi) / 2 < hi:=by lia
   have hms:(lo+hi) / 2 < xs.size:=by lia
   generalize (lo+hi) / 2=m at *
   have eg:xs[m]? = some xs[m]:=RT hms
   have ed:xs.getD m j=xs[m]:=by rw[Uq,eg]; rfl
   rw[ed]
   by_cases hc:xs[m] < j
   ·rw[if_pos hc]
    refine uf h j fuel (m+1) hi (by lia) (by lia) hs (fun i x hi' e=>?_) h2
    by_cases hm:i=m
    ·subst hm
     rw[eg] at e
     cases e
     exact hc
    ·exact Nat.lt_trans (yD h (show i < m by lia) e eg) hc
   ·rw[if_neg hc]
    refine uf h j fuel lo m (by lia) hm1 (by lia) h1 (fun i x hi' e=>?_)
    by_cases hm:i=m
    ·subst hm
     rw[eg] at e
     cases e
     lia
    ·have:=yD h (show m < i by lia) eg e
     lia
  ·rw[if_neg hlt]
   have e:lo=hi:=by lia
   subst e
   exact⟨hs,h1,h2⟩
theorem uE {xs:Array Nat} (h:Ris xs) (j:Nat):TV xs j<=xs.size/\(∀ i x,i < TV xs j->xs[i]? = some x->x < j)/\(∀ i x,TV xs j<=i->xs[i]? = some x->j<=x):=by
 unfold TV
 refine uf h j xs.size 0 xs.size (by lia) (Sd _) (Rh _) (fun i x hi=>absurd hi (Z2 _)) fun i x hi e=>?_
 rw[Vz hi] at e
 cases e
theorem below_at {xs:Array Nat} (h:Ris xs) {i x:Nat} (e:xs[i]? = some x):TV xs (x+1)=i+1:=by
 obtain⟨h1,h2,h3⟩:=uE h (x+1)
 have hi:i < xs.size:=(Array.getElem?_eq_some_iff.mp e).1
 generalize TV xs (x+1)=p at *
 rcases Nat.lt_trichotomy p (i+1) with hp | hp | hp
 ·have:=h3 i x (by lia) e
  lia
 ·exact hp
 ·have hs:i+1 < xs.size:=by lia
  have:=yD h (W8 i) e (RT hs)
  have:=h2 (i+1) _ hp (RT hs)
  lia
theorem Ae {xs:Array Nat} (h:Ris xs):TV xs 0=0:=by
 obtain⟨h1,h2,h3⟩:=uE h 0
 generalize TV xs 0=p at *
 rcases Nat.eq_zero_or_pos p with hp | hp
 ·exact hp
 ·have hs:0 < xs.size:=by lia
  have:=h2 0 _ hp (RT hs)
  lia
theorem J7 {xs:Array Nat} (h:Ris xs) {j:Nat} (hj:xs[TV xs j]?≠some j):Ris (SetTable.insertAt xs (TV xs j) j):=by
 obtain⟨h1,h2,h3⟩:=uE h j
 unfold Ris
 rw[SetTable.toList_insertAt]
 generalize hp:TV xs j=p at *
 have hh:xs.toList.Pairwise (· < ·):=h
 have hlt:∀ x∈xs.toList.take p,x < j:=fun x hx=>by
  obtain⟨i,hi,e⟩:=Wg hx
  rw[RN] at hi
  rw[List.getElem_take] at e
  exact h2 i x (by lia) (by rw[← UL,Rn (by lia),e])
 have hgt:∀ x∈xs.toList.drop p,j < x:=fun x hx=>by
  obtain⟨i,hi,e⟩:=Wg hx
  rw[T8] at hi
  rw[List.getElem_drop] at e
  have ex:xs[p+i]? = some x:=by rw[← UL,Rn (by lia),e]
  have:=h3 (p+i) x (by lia) ex
  rcases Nat.lt_or_ge j x with q | q
  ·exact q
  ·have ejx:x=j:=by lia
   subst ejx
   by_cases hi0:i=0
   ·subst hi0
    exact absurd ex hj
   ·have hps:p < xs.size:=by
     have:=(Array.getElem?_eq_some_iff.mp ex).1
     lia
    have:=yD h (show p < p+i by lia) (RT hps) ex
    have:=h3 p _ (Rh _) (RT hps)
    lia
 rw[List.pairwise_append]
 refine⟨hh.sublist (List.take_sublist _ _),List.pairwise_cons.mpr ⟨hgt,hh.sublist (List.drop_sublist _ _)⟩,fun a ha b hb=>?_⟩
 rcases List.mem_cons.mp hb with rfl | hb
 ·exact hlt a ha
 ·exact Nat.lt_trans (hlt a ha) (hgt b hb)
def qF (t:VR) (j:Nat):Prop:=t.place[TV t.place j]?≠some j
theorem su {t:VR} {j:Nat} (h:t.slot j = .empty∨t.slot j = .dummy):qF t j:=by
 intro e
 unfold SetTable.slot at h
 dsimp only at h
 rw[e,if_pos (by exact beq_self_eq_true _)] at h
 rcases h with h | h <;> cases h
theorem nj {t:VR} {f:Nat->Int} {h:Int}:∀ (fuel:Nat) (p:SetTable.Probe) {j:Nat} {d:Option Nat},(∀ x,p.dummy=some x->qF t x)->Zr t f h fuel p=some (.empty j d)->qF t j/\∀ x,d=some x->qF t x
 | 0,_,_,_,_,e=>by rw[Zr] at e; cases e
 | fuel+1,p,j,d,hd,e=>by
  rw[Zr] at e
  have adv:∀ q:SetTable.Probe,(t.advance q).dummy=q.dummy:=fun q=>by
   unfold SetTable.advance
   split <;> rfl
  cases hs:t.slot p.j with
  | empty =>
   rw[hs] at e
   cases e
   exact⟨su (.inl hs),hd⟩
  | dummy =>
   rw[hs] at e
   dsimp only at e
   refine nj fuel _ (fun x hx=>?_) e
   rw[adv] at hx
   cases hx
   exact su (.inr hs)
  | live i =>
   rw[hs] at e
   dsimp only at e
   by_cases hc:(f i == h)=true
   ·rw[if_pos hc] at e
    cases e
   ·rw[if_neg hc] at e
    exact nj fuel _ (fun x hx=>by rw[adv] at hx; exact hd x hx) e
theorem xJ {t:VR} {h:Int} {j:Nat} {b:Bool} (e:t.freeSlot h=some (j,b)):qF t j:=by
 unfold SetTable.freeSlot SetTable.probe at e
 split at e
 ·rename_i j' d hp
  obtain⟨h1,h2⟩:=nj _ _ (fun x hx=>by cases hx) hp
  cases e
  cases d with
  | none=>exact h1
  | some x=>exact h2 x rfl
 ·cases e
structure TOk (b:Bool) (t:VR):Prop where
 led:t.led=b
 ris:t.plain=true->Ris t.place
theorem Cq (b:Bool):TOk b (.fresh 0 0 b):=⟨rfl,fun _=>Xw⟩
theorem iV {b:Bool} {t:VR} (h:TOk b t) (n:Nat):TOk b (t.standIn n):=⟨h.led,fun z=>by cases z⟩
theorem zX {b:Bool} {t:VR} (h:TOk b t) (es:Array (Int × Value)) (k:Int) (x:Value):TOk b (layNew t es k x).2.1:=by
 unfold layNew
 split
 ·rename_i slot wd e
  dsimp only
  unfold SetTable.orStandIn
  have ht:TOk b (t.put slot).1:=⟨h.led,fun z=>J7 (h.ris z) (xJ e)⟩
  split
  ·exact ht
  ·exact iV ht _
 ·exact iV h _
theorem Gf (owner:Array (Option Nat)):∀ l:List Nat,l.Pairwise (· < ·)->((l.filterMap fun j=>(owner.getD j none).map (j,·)).map (·.1)).Pairwise (· < ·):=fun l hl=>by
 have hs:List.Sublist ((l.filterMap fun j=>(owner.getD j none).map (j,·)).map (·.1)) l:=by
  induction l with
  | nil=>exact List.Sublist.slnil
  | cons a r ih =>
   have ih:=ih (List.pairwise_cons.mp hl).2
   rw[Wh]
   cases e:owner.getD a none with
   | none=>exact ih.cons _
   | some k=>exact ih.cons₂ _
 exact hl.sublist hs
theorem wy {b:Bool} {t:VR} (h:TOk b t) (es:Array (Int × Value)) (m:Nat):TOk b (Zi t es m).2.1:=by
 unfold Zi
 split
 ·rename_i t' order e
  dsimp only
  split
  ·unfold SetTable.relaid SetTable.laid at e
   cases ho:SetTable.layClean (SetTable.sizeAbove m - 1) (es.map (·.1)) with
   | none=>rw[ho] at e; cases e
   | some owner =>
    rw[ho] at e
    cases e
    exact⟨h.led,fun _=>Gf owner _ List.pairwise_lt_range⟩
  ·exact iV h _
 ·exact iV h _
end L2
namespace L2
open PySem PySem.Spec PyProof.Rows
section
variable {P:RV} {w:Sv} {A:Sh} {E:Value->Ra->Prop} {s:Ra}
def nu (P:RV) (w:Sv) (b:Bool) (h:Tf) (a:Addr) (ks:List Int):Prop :=
 ∃ o es ep t,h.get? a=some o/\o.ExactSet/\o.data = .set es ep t/\ElemsOf (Wa P w) es.toList/\t.fits es.size=true/\TOk b t/\∃ ns,Ue (es.toList.map (·.2)) ns/\ns.Perm ks
theorem gG {l l':List Value} (p:l.Perm l'):∀ {ns:List Int},Ue l ns->∃ ms,Ue l' ms/\ms.Perm ns:=by
 induction p with
 | nil=>intro ns h; exact⟨ns,h,.refl _⟩
 | cons x p ih =>
  intro ns h
  cases h with
  | cons n t r =>
   obtain⟨ms,h1,h2⟩:=ih r
   exact⟨n::ms,.cons n t h1,h2.cons n⟩
 | swap x y l =>
  intro ns h
  cases h with
  | cons n t r =>
   cases r with
   | cons m u r=>exact⟨m::n::_,.cons m u (.cons n t r),.swap _ _ _⟩
 | trans p q ih1 ih2 =>
  intro ns h
  obtain⟨ms,h1,h2⟩:=ih1 h
  obtain⟨ks,h3,h4⟩:=ih2 h1
  exact⟨ks,h3,h4.trans h2⟩
theorem oh {k:Int} {t:ZK}:∀ {l:List Value} {ns:List Int},Ue l ns->Ue (l++[.int k t]) (ns++[k])
 | _,_,.nil=>.cons k t .nil
 | _,_,.cons n u r=>.cons n u (oh r)
theorem qR {k:Int}:∀ {l:List Value} {ns:List Int},Ue l ns->(k∈ns ↔ ∃ v∈l,(Wa P w).is k v=true)
 | _,_,.nil=>by simp
 | _,_,.cons n t r=>by
  have ih:=qR (k:=k) r
  have e:(Wa P w).is k (.int n t)=decide (k=n):=KeyKind.is_eq_decide (intKind_is _ _ _ _) k
  rw[Tu,ih]
  constructor
  ·rintro (h | ⟨v,hv,q⟩)
   ·exact⟨_,Rc,by rw[e]; exact decide_eq_true h⟩
   ·exact⟨v,Ri _ hv,q⟩
  ·rintro⟨v,hv,q⟩
   rcases List.mem_cons.mp hv with rfl | hv
   ·rw[e] at q
    exact .inl (of_decide_eq_true q)
   ·exact .inr ⟨v,hv,q⟩
theorem oA {b:Bool} {h:Tf} {a:Addr} {o:U3} {es es':Array (Int × Value)} {ep:Nat} {t t':VR} {ks:List Int} (ho:h.get? a=some o) (hx:o.ExactSet) (hd:o.data = .set es ep t)
  (hel:ElemsOf (Wa P w) es'.toList) (hf:t'.fits es'.size=true) (tk:TOk b t') (hn:∃ ns,Ue (es'.toList.map (·.2)) ns/\ns.Perm ks) :
  (h.update a (Zd es' t')).get? a=some { o with data:=.set es' (ep+1) t' }/\nu P w b (h.update a (Zd es' t')) a ks:=by
 have g:(h.update a (Zd es' t')).get? a=some { o with data:=.set es' (ep+1) t' }:=by
  have q:=R4 (Zd es' t') ho (by rw[putSet_of es' t' hd]; rfl)
  rwa [putSet_of es' t' hd] at q
 exact⟨g,_,es',ep+1,t',g,hx,rfl,hel,hf,tk,hn⟩
theorem Jo {b:Bool} {a:Addr} {ks:List Int} {k:Int} {t0:ZK} {Q:Bool->Ra->Prop} (hS:nu P w b s.heap a ks) (hroom:ks.length+1 < scanBound)
  (h:∀ h' r,Vy a s.heap h'->nu P w b h' a (step_dedup ks k)->Q r { s with heap:=h' }):Rt (Ru P w) A (setAddHashed a (.int k t0) ((Wa P w).hash k)) Q E s:=by
 obtain⟨o,es,ep,t,ho,hx,hd,hel,hf,tk,ns,hi,hp⟩:=hS
 have key:(Wa P w).is k (.int k t0)=true:=intKind_is _ _ _ _
 have hlen:es.size=ks.length:=by
  rw[← hp.length_eq,← hi.length,Q8,Tt]
 have hb:es.size < scanBound:=by lia
 have hm:=qR (P:=P) (w:=w) (k:=k) hi
 unfold setAddHashed setAddHashedIn
 refine Ug (Q9 (VJ ho hd hf ?_))
 dsimp only
 rw[byScan_of rfl hb hel]
 simp only[↓reduceIte]
 unfold setAddByScan
 refine Q9 (Q9 (YZ (Q9 (wpAny_setScan_of key ho hd hf hel ?_))))
 cases hr:es.toList.findIdx? (fun e=>(Wa P w).is k e.2) with
 | some j =>
  dsimp only
  obtain⟨hj,q,_⟩:=List.findIdx?_eq_some_iff_getElem.mp hr
  have hk:k∈ks:=hp.mem_iff.mp (hm.mpr ⟨es.toList[j].2,List.mem_map.mpr ⟨_,Wb hj,rfl⟩,q⟩)
  have es0:step_dedup ks k=ks:=by
   unfold step_dedup
   have hany:(ks.any fun x=>x == k)=true:=List.any_eq_true.mpr ⟨k,hk,beq_self_eq_true k⟩
   rw[if_pos hany]
  have q':=h s.heap false (Heap.SameBut.refl a s.heap) (by rw[es0]; exact⟨o,es,ep,t,ho,hx,hd,hel,hf,tk,ns,hi,hp⟩)
  exact Rj (Rj q')
 | none =>
  dsimp only
  have hk:k ∉ ks:=fun z=>by
   obtain⟨v,hv,q⟩:=hm.mp (hp.mem_iff.mpr z)
   obtain⟨e,he,rfl⟩:=List.mem_map.mp hv
   rw[List.findIdx?_eq_none_iff.mp hr e he] at q
   cases q
  have es0:step_dedup ks k=ks++[k]:=by
   unfold step_dedup
   rw[if_neg]
   intro z
   obtain⟨x,hx',e⟩:=List.any_eq_true.mp z
   exact hk (by rw[← eq_of_beq e]; exact hx')
  rw[es0] at h
  have pm:=layNew_perm t es ((Wa P w).hash k) (.int k t0)
  have ft:=layNew_fits t es ((Wa P w).hash k) (.int k t0)
  have tk1:=zX tk es ((Wa P w).hash k) (.int k t0)
  generalize layNew t es ((Wa P w).hash k) (.int k t0)=L at pm ft tk1 ⊢
  obtain⟨es1,t1,wd,gv⟩:=L
  dsimp only at pm ft tk1 ⊢
  rw[Array.toList_push] at pm
  have hel1:ElemsOf (Wa P w) es1.toList:=(hel.push key rfl).perm pm
  have hn1:∃ ns,Ue (es1.toList.map (·.2)) ns/\ns.Perm (ks++[k]):=by
   have i1:Ue ((es.toList++[((Wa P w).hash k,YG k t0)]).map (·.2)) (ns++[k]):=by
    rw[Rx]
    exact oh hi
   obtain⟨ms,h1,h2⟩:=gG (pm.symm.map (·.2)) i1
   exact⟨ms,h1,h2.trans (hp.append (.refl _))⟩
  have hs1:es1.size<=sizeLine:=by
   have:es1.size=es.size+1:=by rw[← Tt,pm.length_eq,Rf,Tt]; rfl
   exact fits_of_scanBound (by lia)
  have gw:∀ (b:Bool) {s₁:Ra} {Q':Unit->Ra->Prop},Q' () s₁->Rt (Ru P w) A (match b with | true=>rule "set.scan.the-table-gave-way" | false=>pure ()) Q' E s₁:=fun b s₁ Q' hq=>by
   cases b
   ·exact Rj hq
   ·exact YZ hq
  have tail:∀ (g:Bool->Sem Unit) (R:Option Bool->Ra->Prop) (t2:VR),(∀ (b:Bool) (s₁:Ra) (Q':Unit->Ra->Prop),Q' () s₁->Rt (Ru P w) A (g b) Q' E s₁)->t2.fits es1.size=true->TOk b t2 →
    (∀ h',Vy a s.heap h'->nu P w b h' a (ks++[k])->R (some true) { s with heap:=h' })->Rt (Ru P w) A (do
    storeSet a es1 t2
    if (!wd && t2.tooFull)=true then do
      g (Zi t2 es1 (VP es1.size)).2.2
      storeSet a (Zi t2 es1 (VP es1.size)).1 (Zi t2 es1 (VP es1.size)).2.1
      pure (some true)
     else pure (some true)) R E s:=fun g R t2 hg f2 k2 hR=>by
   refine Q9 (wpAny_storeSet_of ho hd ?_ hs1)
   obtain⟨ho1,hS1⟩:=oA (P:=P) (w:=w) ho hx hd hel1 f2 k2 hn1
   have sb1:=Vb s.heap a (Zd es1 t2)
   split
   ·have pr:=relayAll_perm t2 es1 (VP es1.size)
    have fr:=relayAll_fits t2 es1 (VP es1.size)
    have tr:=wy k2 es1 (VP es1.size)
    generalize Zi t2 es1 (VP es1.size)=R at pr fr tr ⊢
    obtain⟨es2,t3,g2⟩:=R
    dsimp only at pr fr tr ⊢
    have hn2:∃ ns,Ue (es2.toList.map (·.2)) ns/\ns.Perm (ks++[k]):=by
     obtain⟨ns1,i1,p1⟩:=hn1
     obtain⟨ms,h1,h2⟩:=gG (pr.symm.map (·.2)) i1
     exact⟨ms,h1,h2.trans p1⟩
    have hs2:es2.size<=sizeLine:=by
     have:es2.size=es1.size:=by rw[← Tt,pr.length_eq,Tt]
     lia
    refine Q9 (hg _ _ _ (Q9 (wpAny_storeSet_of ho1 rfl ?_ hs2)))
    obtain⟨_,hS2⟩:=oA (P:=P) (w:=w) ho1 hx rfl (hel1.perm pr) fr tr hn2
    exact Rj (hR _ (sb1.trans (Vb _ a _)) hS2)
   ·exact Rj (hR _ sb1 hS1)
  refine Q9 (gw _ ?_)
  split
  ·refine Q9 ?_
   rw[hashByValue_scannable 8 rfl]
   refine Rj (tail _ _ _ (fun b s₁ Q' hq=>gw b hq) ?_ ?_ fun h' sb hS=>Rj (h h' true sb hS))
   ·exact ft
   ·exact tk1
  ·exact Q9 (Rj (tail _ _ _ (fun b s₁ Q' hq=>gw b hq) ft tk1 fun h' sb hS=>Rj (h h' true sb hS)))
end
end L2
namespace L2
open PySem PySem.Spec PyProof.Rows
theorem mZ {P:RV} {w:Sv} {b:Bool} {h h':Tf} {a:Addr} {ks:List Int} (hk:∀ o,h.get? a=some o->h'.get? a=some o) (hS:nu P w b h a ks):nu P w b h' a ks:=by
 obtain⟨o,es,ep,t,ho,r⟩:=hS
 exact⟨o,es,ep,t,hk o ho,r⟩
section
variable {P:RV} {w:Sv} {A:Sh} {R:Yw->Ra->Prop} {I:Addr} {fp wr:List Addr} {G:Array Zw->Array Zw->Prop} {n:Nat} {Pv:Nat->Value->Prop} {St:Nat->Ra->Prop} {b:Bool}
theorem Gw (W:WalksS P w A.in1 I fp wr G n Pv St) (S:Addr) (hS:S ∉ fp) (val:Nat->Int) (hv:∀ i v,Pv i v->∃ t,v = .int (val i) t) (hb:n+1 < scanBound) :
  ∀ (k i:Nat) (s:Ra),n - i=k->i<=n->St i s->nu P w b s.heap S (firstMet val i)->(∀ s',Moved (S::wr) G s s'->nu P w b s'.heap S (firstMet val n)->R (.ok (.ret .none)) s') →
   T5 (Ru P w) A (.builtin "set.update.loop" ⟨[.ref S,.ref I],[]⟩) R s:=by
 have nw:S ∉ wr:=fun z=>hS (W.sub _ z)
 have sub:∀ x∈wr,x∈S::wr:=fun x hx=>Ri _ hx
 intro k
 induction k with
 | zero =>
  intro i s hk hi st hs hR
  obtain rfl:i=n:=by lia
  refine Wn F.entry_set_update_loop ?_
  rw[V9 XS _]
  refine (show Rt _ A.in1 (Xh (.ref I) >>= _) _ _ s from Q9 (W.done s _ _ st fun s' hm=>?_))
  exact (show Rt _ A.in1 (ret SQ) _ _ s' from Rj (hR s' (hm.mono sub) (mZ (fun o e=>hm.heap S o nw e) hs)))
 | succ k ih =>
  intro i s hk hi st hs hR
  have lt:i < n:=by lia
  refine Wn F.entry_set_update_loop ?_
  rw[V9 XS _]
  refine (show Rt _ A.in1 (Xh (.ref I) >>= _) _ _ s from Q9 (W.item i s _ _ lt st fun v s' hP st' hm=>?_))
  obtain⟨t,rfl⟩:=hv i v hP
  have hs':=mZ (h':=s'.heap) (fun o e=>hm.heap S o nw e) hs
  have room:(firstMet val i).length+1 < scanBound:=by
   have:=firstMet_length_le val i
   lia
  refine (show Rt _ A.in1 (YF [YG (val i) t] (setAdd S (.int (val i) t)) >>= _) _ _ s' from Q9 (Ug ?_))
  unfold setAdd
  refine Ug (Q9 ((Wa P w).pyHash (k:=val i) (intKind_is _ _ _ _) ?_))
  refine Jo (s:={ s' with toks:=s'.toks+1 }) hs' room fun h' r sb hn=>?_
  rw[← firstMet_succ] at hn
  refine Rj ⟨Xy XS _,ih (i+1) _ (by lia) lt (W.frame _ s' _ _ st' (Ud _) fun x hx o e=>?_) hn fun s'' hm'' hs''=>?_⟩
  ·rw[sb.2 x (fun z:x=S=>hS (by rw[← z]; exact hx))]
   exact e
  ·refine hR s'' (Moved.trans W.gtrans ((hm.mono sub).then_heap (Ud _) fun x o hx e=>?_) hm'') hs''
   rw[sb.2 x (fun z:x=S=>hx (by rw[z]; exact Rc))]
   exact e
end
end L2
namespace L2
open PySem PySem.Spec PyProof.Rows
section
variable {P:RV} {w:Sv} {A:Sh} {E:Value->Ra->Prop} {s:Ra}
def GP (w:Sv):Bool:=!w.params.followText "set-order"
def newS (w:Sv):U3:={ cls:=.type "set",dict:=none,data:=.set #[] 0 (.fresh 0 0 (GP w)) }
theorem IK (a:Value) {Q₁:Value->Ra->Prop} (h:Q₁ (.ref s.heap.objs.size) { s with heap:=s.heap.push (newS w) }) :
  T5 (Ru P w) A (.call (.builtin "set.__new__") ⟨[.type "set",a],[]⟩) (wants Q₁ E) s:=by
 refine Yk (show Rt _ A.in1 (do WX "set.__new__" ⟨[.type "set",a],[]⟩; XJ (.builtin "set.__new__" ⟨[.type "set",a],[]⟩)) _ _ s from ?_)
 refine Q9 (ZR (PySem.F.newCall_set_1 a) (Rj ⟨Xy PySem.F.plain_set_new _,Wn PySem.F.entry_set_new ?_⟩))
 rw[V9 PySem.F.plain_set_new _]
 unfold Builtin.«set.__new__» Builtin.Frozenset.newClass; have hsub:=sub_set_self; obtain⟨hp,g,d,tk,os⟩:=s
 dsimp only
 wp_walk
 refine Vs (Rj ?_)
 dsimp only
 simp only[newObj]; refine Q9 (wpAny_alloc (Rj ?_))
 exact Rj h
end
end L2
namespace L2
open PySem PySem.Spec PyProof.Rows
section
variable {P:RV} {w:Sv} {A:Sh} {E:Value->Ra->Prop} {s:Ra}
set_option maxRecDepth 100000 in
set_option maxHeartbeats 3200000 in
theorem xK {l:Addr} {items:Array Value} {ns:List Int} {Q:Value->Ra->Prop} (hh:A.handled=none) (hl:s.heap.IsList l items) (hi:Ue items.toList ns) (hb:items.size+1 < scanBound)
  (h:∀ (h':Tf) (tk:Nat),nu P w (GP w) h' s.heap.objs.size (firstMet (fun i=>ns.getD i 0) items.size)->(∀ b o,b < s.heap.objs.size->s.heap.get? b=some o->h'.get? b=some o)->Q (.ref s.heap.objs.size) { s with heap:=h',toks:=tk }) :
  Rt (Ru P w) A (call (.type "set") [.ref l]) Q E s:=by
 obtain⟨c,tl,hmro⟩:=PySem.F.called_set.mro
 have hmade:=PySem.F.called_set.made
 have hsub:=PySem.F.called_set.sub
 refine WR (Yk (show Rt _ _ (callAny (.type "set") _) _ _ _ from Rj ⟨Zf _ (by decide+kernel),Wn PySem.F.entry_type_call ?_⟩))
 rw[Around.under_plain (weight_type_call_type "set" [.ref l] []) rfl]
 have h1:=PySem.F.called_set.notType
 have h2:=PySem.F.called_set.canCreate
 have hct:=PySem.F.typeCall_set_1 (.ref l)
 repeat (any_goals (first | assumption | wp_step))
 refine Vl (IK (.ref l) (E:=E) (Q₁:=fun obj s₁=>obj = .ref s.heap.objs.size/\s₁={ s with heap:=s.heap.push (newS w) }) ⟨rfl,rfl⟩) fun r s₁ hr=>?_
 cases r with
 | error e=>exact hr
 | ok fl =>
  cases fl with
  | ret obj =>
   obtain⟨rfl,rfl⟩:=hr
   have gS:(s.heap.push (newS w)).get? s.heap.objs.size=some (newS w):=RK _ rfl
   have hT:Shared.TypeIs { s with heap:=s.heap.push (newS w) } (.ref s.heap.objs.size) "set":=⟨_,gS,rfl⟩
   have hli:=PySem.F.called_set.init.lookup
   have hbi:=PySem.F.called_set.init.bind (.ref s.heap.objs.size)
   repeat (any_goals (first | assumption | wp_step))
   refine Vl (Xd (R:=wants (fun r s₂=>r = .none/\∃ h' tk,s₂={ s with heap:=h',toks:=tk }/\nu P w (GP w) h' s.heap.objs.size (firstMet (fun i=>ns.getD i 0) items.size) ∧
     (∀ b o,b < s.heap.objs.size->s.heap.get? b=some o->h'.get? b=some o)) E) PySem.F.called_set.init.plain PySem.F.entry_set_init (check_set_init_1 hT ?_)) fun r₂ s₂ hr₂=>?_
   ·obtain⟨ol,hol,hcl,nl,hdl⟩:=hl
    obtain⟨ocls,odict,odata,oslots⟩:=ol
    simp only at hcl hdl
    subst hcl hdl
    have hol':(s.heap.push (newS w)).get? l=some { cls:=.type "list",dict:=odict,data:=.seq items nl,slots:=oslots }:=Rb _ hol
    have hsls:=PySem.F.sub_list_set
    have hslf:=PySem.F.sub_list_frozenset
    have hne:(VN "list" == VN "dict")=false:=by decide
    have hl1:(s.heap.push (newS w)).IsList l items:=⟨_,hol',rfl,nl,rfl⟩
    have gS':(s.heap.push (newS w)).get? s.heap.objs.size=some { cls:=.type "set",dict:=none,data:=.set #[] 0 (.fresh 0 0 (GP w)) }:=gS
    unfold Builtin.«set.__init__» noKeywords Builtin.Frozenset.updateFrom; generalize hPI:Y6=PI
    wp_walk
    subst hPI
    refine Zh hl1 (Q9 (wpAny_runValue ?_))
    have hlS:l < s.heap.objs.size:=Ro hol
    have hh3:A.in1.in1.in1.handled=none:=by simp [hh]
    have hneI:l≠(s.heap.push (newS w)).objs.size:=by
     rw[Uy]
     exact RX (U5 hlS)
    have hSf:s.heap.objs.size ∉ [(s.heap.push (newS w)).objs.size,l]:=by
     rw[Uy,Tu,Wu]
     rintro (z | z)
     ·exact absurd z (RX (W8 _))
     ·exact absurd z (Vx hlS)
    refine Gw (b:=GP w) ((Walks.list hh3 _ l hneI items).toS) s.heap.objs.size hSf (fun i=>ns.getD i 0) (fun i v hv=>IntsAre.int_at hi i v (by rw[UL]; exact hv)) hb (items.size - 0) 0 _ (by lia) (Sd _)
     ⟨⟨_,RK _ rfl,rfl,rfl⟩,(hl1.push _)⟩ ?hS0 ?hR
    case hS0=>exact⟨newS w,#[],0,_,Rb _ gS,⟨rfl,rfl,rfl⟩,rfl,(fun e he=>by simp at he),rfl,Cq _,[],.nil,.refl _⟩
    case hR =>
     intro s' hm hS'
     obtain⟨h',g',d',tk',os'⟩:=s'
     obtain rfl:g'=s.gens:=hm.gens
     obtain rfl:d'=s.drawn:=hm.drawn
     obtain rfl:os'=s.os:=hm.os
     refine (show Rt _ _ _ _ _ _ from Rj (show Rt _ _ (ret SQ) _ _ _ from Rj ⟨rfl,h',tk',rfl,hS',fun b o hb e=>?_⟩))
     refine hm.heap b o ?_ (Rb _ (Rb _ e))
     rw[Tu,Wu,Uy]
     rintro (z | z)
     ·exact absurd z (RX hb)
     ·exact absurd z (RX (U5 hb))
   ·cases r₂ with
    | error e=>exact hr₂
    | ok fl₂ =>
     cases fl₂ with
     | ret r =>
      obtain⟨rfl,h',tk,rfl,hS',hk'⟩:=hr₂
      repeat (any_goals (first | assumption | wp_step))
      exact h h' tk hS' hk'
     | _=>exact hr₂.elim
  | _=>exact hr.elim
end
end L2
namespace L2
open PySem PySem.Spec PyProof.Rows
theorem wI:Manifest.owners.lookup (String.ofList ['r','o','t','a','r','e','t','i','_','t','e','s'].reverse)=some Manifest.sig_set_iterator:=by kernel_rfl
theorem bC:Slot "set_iterator" "__next__" "set_iterator.__next__" :=
 .of (owner:="set_iterator") (n:="__next__") (by rw[typeLookup_type,builtinLookup_eq_fast]; kernel_rfl) (by decide+kernel) (by decide+kernel) (by decide+kernel) (by first | exact .inl (by decide+kernel) | exact .inr (by decide+kernel)) (by rw[isSubtype_type]; kernel_rfl)
theorem fj:entryFor table "set_iterator.__next__" = some Builtin.«set_iterator.__next__»:=entryFor_of_tree (by kernel_rfl)
theorem fU (a:Value):argsOk "set_iterator.__next__" ⟨[a],[]⟩:=by
 unfold argsOk
 rw[signature?_of (id:="set_iterator.__next__") (n:=['_','_','t','x','e','n','_','_']) (o:=['r','o','t','a','r','e','t','i','_','t','e','s']) (by kernel_rfl) wI]
 kernel_rfl
theorem jy:Slot "set_iterator" "__iter__" "set_iterator.__iter__" :=
 .of (owner:="set_iterator") (n:="__iter__") (by rw[typeLookup_type,builtinLookup_eq_fast]; kernel_rfl) (by decide+kernel) (by decide+kernel) (by decide+kernel) (by first | exact .inl (by decide+kernel) | exact .inr (by decide+kernel)) (by rw[isSubtype_type]; kernel_rfl)
theorem oF:entryFor table "set_iterator.__iter__" = some Builtin.«dict_keyiterator.__iter__»:=entryFor_alias (id':="dict_keyiterator.__iter__") (by kernel_rfl) rfl (by decide+kernel) (by kernel_rfl)
theorem qY (a:Value):argsOk "set_iterator.__iter__" ⟨[a],[]⟩:=by
 unfold argsOk
 rw[signature?_of (id:="set_iterator.__iter__") (n:=['_','_','r','e','t','i','_','_']) (o:=['r','o','t','a','r','e','t','i','_','t','e','s']) (by kernel_rfl) wI]
 kernel_rfl
theorem qH:entryFor table "set.__iter__" = some Builtin.«frozenset.__iter__»:=entryFor_alias (id':="frozenset.__iter__") (by kernel_rfl) rfl (by decide+kernel) (by kernel_rfl)
theorem nQ {α:Type}:∀ (l:List α) (j:Nat) (h:j < l.length),(l[j]::l.eraseIdx j).Perm l
 | a::r,0,_=>.refl _
 | a::r,j+1,h=>by
  have ih:=nQ r j (Yb h)
  rw[List.getElem_cons_succ,List.eraseIdx_cons_succ]
  exact (List.Perm.swap _ _ _).trans (ih.cons a)
theorem vJ {α:Type} (nx:Nat->Nat):∀ (fuel k:Nat) (left:List α) (out:Array α),left.length<=fuel->(pickOrder.go nx fuel k left out).toList.Perm (out.toList++left)
 | 0,k,left,out,h=>by
  rw[pickOrder.go]
  have e:left=[]:=Xf (by lia)
  subst e
  rw[Ss]
 | fuel+1,k,left,out,h=>by
  rw[pickOrder.go]
  cases hl:left with
  | nil =>
   simp
  | cons a r =>
   have hlen:nx k % (a::r).length < (a::r).length:=Nat.mod_lt _ (by simp)
   rw[Rn hlen]
   dsimp only
   generalize nx k % (a::r).length=j at hlen ⊢
   have ih:=vJ nx fuel (k+1) ((a::r).eraseIdx j) (out.push (a::r)[j]) (by rw[List.length_eraseIdx_of_lt hlen,← hl]; lia)
   refine ih.trans ?_
   rw[Array.toList_push,RG]
   refine List.Perm.append (.refl _) ?_
   show ((a::r)[j]::(a::r).eraseIdx j).Perm (a::r)
   exact nQ _ j hlen
theorem qy {α:Type} (nx:Nat->Nat) (xs:Array α):(WW nx xs).toList.Perm xs.toList:=by
 unfold WW
 have:=vJ nx xs.size 0 xs.toList #[] (by rw[Tt]; exact Rh _)
 simpa using this
section
variable {P:RV} {w:Sv} {A:Sh} {E:Value->Ra->Prop} {s:Ra}
theorem wF {α:Type} {Q:List α->Ra->Prop}:∀ (n:Nat) (xs:List α) (s:Ra),xs.length=n->(∀ ys d,ys.Perm xs->Q ys { s with drawn:=d })->Rt (Ru P w) A (drawOrder n xs) Q E s
 | 0,xs,s,h,hq=>by
  rw[drawOrder]
  have e:xs=[]:=Xf h
  subst e
  exact Rj (hq [] s.drawn (.refl _))
 | n+1,[],s,h,hq=>by cases h
 | n+1,x::xs,s,h,hq=>by
  rw[drawOrder]
  ·refine Q9 (fun Γ p hΓ=>?_)
   show Sem.wp _ _ (.choose .order (x::xs).length .pure) _ _ _ _
   rw[Sem.wp_choose]
   refine⟨by simp,?_⟩
   rw[Sem.wp_pure]
   generalize (Ru P w).w.draws .order (s.drawn.get .order)=z
   have hlen:z % (x::xs).length < (x::xs).length:=Nat.mod_lt _ (by simp)
   generalize z % (x::xs).length=j at hlen ⊢
   show Rt _ _ _ _ _ _
   rw[Rn hlen]
   dsimp only
   refine Q9 (wF n ((x::xs).eraseIdx j) _ (by rw[List.length_eraseIdx_of_lt hlen]; rw[Rg] at h ⊢; lia) fun ys d p=>Rj ?_)
   exact hq _ d ((p.cons _).trans (nQ _ j hlen))
  ·simp
end
end L2
namespace L2
open PySem PySem.Spec PyProof.Rows
def SIt (h:Tf) (I S:Addr) (f:Value) (i n ep:Nat):Prop:=h.get? I=some { cls:=.type "set_iterator",dict:=none,data:=.fields #[f,.int i 0,.ref S,.int n 0,.int ep 0],slots:=#[] }
section
variable {P:RV} {w:Sv} {A:Sh} {E:Value->Ra->Prop} {s:Ra} {I S:Addr} {o:U3} {es:Array (Int × Value)} {ep:Nat} {t:VR}
theorem ug {sl:Int} {tk:ZK} {i:Nat} {Q:Option Value->Ra->Prop} {r:Option (Value × Nat)} (hh:A.handled=none) (hI:SIt s.heap I S (.int sl tk) i es.size ep) (hS:s.heap.get? S=some o) (hd:o.data = .set es ep t) (hf:t.fits es.size=true)
  (hn:∀ (A:Sh) (E:Value->Ra->Prop) (Q:Option (Value × Nat)->Ra->Prop),Q r s->Rt (Ru P w) A (Z4 S sl.toNat i ep) Q E s)
  (hs:∀ x j h',r=some (x,j)->SIt h' I S (.int (j:Nat) 0) (i+1) es.size ep->Vy I s.heap h'->Q (some x) { s with heap:=h' }) (he:∀ h',r=none->Heap.ExtBut I s.heap h'->Q none { s with heap:=h' }):Rt (Ru P w) A (Xh (.ref I)) Q E s:=by
 have hT:s.TypeIs (.ref I) "set_iterator":=⟨_,hI,rfl⟩
 unfold Xh
 refine Q9 (YQ (Wx (name:=X4 "__next__") hT bC (Vr bC hT fj ?_ (fU _))))
 refine (show Rt _ _ (fieldsOf (.ref I) >>= _) _ _ s from Q9 (wpAny_fieldsOf hI rfl ?_))
 refine (show Rt _ _ (setEntries S >>= _) _ _ s from Q9 (Xi hS hd hf ?_))
 rw[if_neg (by simp)]
 refine (show Rt _ _ (Z4 S sl.toNat (i:Int).toNat (ep:Int).toNat >>= _) _ _ s from Q9 ?_)
 rw[Th,Th]
 refine hn _ _ _ ?_
 cases hr:r with
 | some xj =>
  obtain⟨x,j⟩:=xj
  dsimp only
  refine Q9 (Ut hI rfl (by simp) ?_)
  have g1:=R4 (Ub (·.setIfInBounds 0 (Te (j:Int)))) hI rfl
  refine Q9 (Ut g1 rfl (by simp) ?_)
  have g2:=R4 (Ub (·.setIfInBounds 1 (Te ((i:Int)+1)))) g1 rfl
  refine Rj ⟨x,rfl,Rj (hs x j _ hr ?_ ((Vb ..).trans (Vb ..)))⟩
  exact g2
 | none =>
  dsimp only
  refine Q9 (Ut hI rfl (by simp) ?_)
  refine (show Rt _ _ (newExc (.type "StopIteration") [] >>= _) _ _ _ from Q9 ?_)
  simp only[newExc,newTuple]
  refine Q9 (SN ?_ (by size_fits))
  refine Q9 (m:=Yu _ _) (ZR (a:=SQ) (by first | rfl | (simp only[Yu]; rfl)) (SN ?_ (by size_fits)))
  simp only[raiseNew]
  refine Q9 (wpAny_handled ?_)
  first | rw[show A.in1.handled=none from hh] | rw[hh]
  refine Q9 (Rj (wpAny_throw ?_))
  refine Q9 (ZC (T:="StopIteration") (b:=true) ⟨_,RK _ rfl,rfl⟩ isSubtype_stop (Rj ?_))
  exact he _ hr (((Vb ..).extBut.push _).push _)
end
end L2
namespace L2
open PySem PySem.Spec PyProof.Rows
section
variable {P:RV} {w:Sv} {A:Sh} {E:Value->Ra->Prop} {s:Ra} {I S:Addr} {o:U3} {es:Array (Int × Value)} {ep:Nat} {t:VR}
theorem vW {sl i:Nat} {Q:Option (Value × Nat)->Ra->Prop} (hb:w.params.followText "set-order" = true) (hS:s.heap.get? S=some o) (hd:o.data = .set es ep t) (hf:t.fits es.size=true)
  (h:Q (((WW (w.params.setOrder S ep) es)[i]?).map fun e=>(e.2,sl)) s):Rt (Ru P w) A (Z4 S sl i ep) Q E s:=by
 unfold Z4
 refine Q9 (VJ hS hd hf ?_)
 dsimp only
 unfold setsByText
 refine Q9 (Q9 (Vs (Rj ?_)))
 rw[if_pos (show (Ru P w).w.params.followText "set-order" = true from hb),if_neg (by simp)]
 unfold setWalk
 refine Q9 (Q9 (VJ hS hd hf ?_))
 dsimp only
 unfold setsByText
 refine Q9 (Q9 (Vs (Rj ?_)))
 rw[if_pos (show (Ru P w).w.params.followText "set-order" = true from hb)]
 exact Q9 (Vs (Rj (Rj h)))
theorem rZ {sl i:Nat} {Q:Option (Value × Nat)->Ra->Prop} (hb:w.params.followText "set-order" = false) (hS:s.heap.get? S=some o) (hd:o.data = .set es ep t) (hf:t.fits es.size=true) (hl:t.led=true)
  (hp:t.plain=true∨es.size<=1) (hi:TV t.place sl=i)
  (h:Q (match es[i]?,t.place[i]? with | some (_,x),some j=>some (x,j+1) | _,_=>none) s):Rt (Ru P w) A (Z4 S sl i ep) Q E s:=by
 unfold Z4
 refine Q9 (VJ hS hd hf ?_)
 dsimp only
 unfold setsByText
 refine Q9 (Q9 (Vs (Rj ?_)))
 rw[if_neg (show ¬ (Ru P w).w.params.followText "set-order" = true by rw[show (Ru P w).w.params.followText "set-order" = false from hb]; exact Rv)]
 have hdr:(!t.plain && decide (es.size > 1))=false:=by
  rcases hp with q | q
  ·rw[q]
   rfl
  ·rw[decide_eq_false (by lia),YD]
 refine Yh (show decide ((!t.plain && decide (es.size > 1))=true)=false from decide_eq_false (by rw[hdr]; exact Rv)) ?_
 refine Q9 (show Rt _ _ (if (!t.led && !es.isEmpty)=true then unsupported "set:maker-not-led" else pure ()) _ _ _ from ?_)
 rw[hl]
 refine Yh (decide_eq_false (by simp)) (Rj (Rj ?_))
 rw[hi]
 exact h
theorem uz {f:Value} {i n:Nat} {Q:Value->Ra->Prop} (hI:SIt s.heap I S f i n ep) (h:Q (.ref I) s):Rt (Ru P w) A (Y6 (.ref I)) Q E s:=by
 have hT:s.TypeIs (.ref I) "set_iterator":=⟨_,hI,rfl⟩
 refine wpAny_pyIter_slot hT jy (Vr jy hT oF (show Rt _ _ (ret (.ref I)) _ _ s from ?_) (qY _))
 exact Rj ⟨_,rfl,"set_iterator",_,hT,bC.lookup,h⟩
theorem DY (hh:A.handled=none) (hne:S≠I) (hb:w.params.followText "set-order" = true) (hd:o.data = .set es ep t) (hf:t.fits es.size=true) :
  Walks P w A I [I,S] [I] es.size (fun i v=>((WW (w.params.setOrder S ep) es).toList.map (·.2))[i]? = some v) (fun i h=>(∃ (sl:Nat) (tk:ZK),SIt h I S (.int (sl:Int) tk) i es.size ep)/\h.get? S=some o) where
 sub:=fun b hb=>by simp at hb; simp [hb]
 frame:=fun i h h' st hk=>by
  obtain⟨⟨sl,tk,hI⟩,hS⟩:=st
  exact⟨⟨sl,tk,hk I (by simp) _ hI⟩,hk S (by simp) _ hS⟩
 item:=fun i s Q E hi st hQ=>by
  obtain⟨⟨sl,tk,hI⟩,hS⟩:=st
  have pl:(WW (w.params.setOrder S ep) es).size=es.size:=by
   have:=(qy (w.params.setOrder S ep) es).length_eq
   simpa using this
  have hx:(WW (w.params.setOrder S ep) es)[i]? = some ((WW (w.params.setOrder S ep) es)[i]'(by lia)):=RT _
  generalize (WW (w.params.setOrder S ep) es)[i]'(by lia)=x at hx
  refine ug (r:=some (x.2,sl)) hh hI hS hd hf (fun A E Q q=>?_) (fun v j h' hr hI' sb=>?_) (fun h' hr _=>by cases hr)
  ·refine vW hb hS hd hf ?_
   rw[Th,hx]
   exact q
  ·cases hr
   refine hQ _ h' s.toks ?_ ⟨⟨sl,0,hI'⟩,sb.2 S hne▸hS⟩ fun b o' hb' e=>?_
   ·rw[Rz,UL,hx]
    rfl
   ·rw[sb.2 b (fun z=>hb' (by rw[z]; exact List.mem_singleton.mpr rfl))]
    exact e
 done:=fun s Q E st hQ=>by
  obtain⟨⟨sl,tk,hI⟩,hS⟩:=st
  have pl:(WW (w.params.setOrder S ep) es).size=es.size:=by
   have:=(qy (w.params.setOrder S ep) es).length_eq
   simpa using this
  refine ug (r:=none) hh hI hS hd hf (fun A E Q q=>?_) (fun v j h' hr=>by cases hr) (fun h' _ hx=>?_)
  ·refine vW hb hS hd hf ?_
   rw[Vz (by lia)]
   exact q
  ·exact hQ h' s.toks fun b o' hb' e=>hx b o' (fun z=>hb' (by rw[z]; exact List.mem_singleton.mpr rfl)) e
 self:=fun i s Q E st hQ=>by
  obtain⟨⟨sl,tk,hI⟩,_⟩:=st
  exact uz hI hQ
def slotAt (pl:Array Nat):Nat->Nat
 | 0=>0
 | i+1=>pl.getD i 0+1
theorem nY {pl:Array Nat} (h:Ris pl):∀ {i:Nat},i<=pl.size->TV pl (slotAt pl i)=i
 | 0,_=>Ae h
 | i+1,hi=>by
  have e:pl[i]? = some (pl.getD i 0):=by
   rw[RT (by lia),Uq,RT (by lia)]
   rfl
  exact below_at h e
theorem zL (hh:A.handled=none) (hne:S≠I) (hb:w.params.followText "set-order" = false) (hd:o.data = .set es ep t) (hf:t.fits es.size=true) (hl:t.led=true) (hp:t.plain=true∨es.size<=1) (hr:Ris t.place) :
  Walks P w A I [I,S] [I] es.size (fun i v=>(es.toList.map (·.2))[i]? = some v) (fun i h=>(∃ tk:ZK,SIt h I S (.int (slotAt t.place i:Nat) tk) i es.size ep)/\h.get? S=some o) where
 sub:=fun b hb=>by simp at hb; simp [hb]
 frame:=fun i h h' st hk=>by
  obtain⟨⟨tk,hI⟩,hS⟩:=st
  exact⟨⟨tk,hk I (by simp) _ hI⟩,hk S (by simp) _ hS⟩
 item:=fun i s Q E hi st hQ=>by
  obtain⟨⟨tk,hI⟩,hS⟩:=st
  have ps:t.place.size=es.size:=by
   simp only[SetTable.fits,Rp,beq_iff_eq] at hf
   exact hf.1
  have hx:es[i]? = some es[i]:=RT hi
  have hj:t.place[i]? = some (t.place.getD i 0):=by
   rw[RT (by lia),Uq,RT (by lia)]
   rfl
  generalize es[i]=x at hx
  obtain⟨k,v⟩:=x
  refine ug (r:=some (v,t.place.getD i 0+1)) hh hI hS hd hf (fun A E Q q=>?_) (fun u j h' hr hI' sb=>?_) (fun h' hr _=>by cases hr)
  ·refine rZ hb hS hd hf hl hp (i:=i) (by rw[Th]; exact nY hr (by lia)) ?_
   rw[hx,hj]
   exact q
  ·cases hr
   refine hQ _ h' s.toks ?_ ⟨⟨0,hI'⟩,sb.2 S hne▸hS⟩ fun b o' hb' e=>?_
   ·rw[Rz,UL,hx]
    rfl
   ·rw[sb.2 b (fun z=>hb' (by rw[z]; exact List.mem_singleton.mpr rfl))]
    exact e
 done:=fun s Q E st hQ=>by
  obtain⟨⟨tk,hI⟩,hS⟩:=st
  have ps:t.place.size=es.size:=by
   simp only[SetTable.fits,Rp,beq_iff_eq] at hf
   exact hf.1
  refine ug (r:=none) hh hI hS hd hf (fun A E Q q=>?_) (fun v j h' hr=>by cases hr) (fun h' _ hx=>?_)
  ·refine rZ hb hS hd hf hl hp (i:=es.size) (by rw[Th]; exact nY hr (by lia)) ?_
   rw[Vz (Rh _)]
   exact q
  ·exact hQ h' s.toks fun b o' hb' e=>hx b o' (fun z=>hb' (by rw[z]; exact List.mem_singleton.mpr rfl)) e
 self:=fun i s Q E st hQ=>by
  obtain⟨⟨tk,hI⟩,_⟩:=st
  exact uz hI hQ
end
end L2
namespace L2
open PySem PySem.Spec PyProof.Rows
section
variable {P:RV} {w:Sv} {A:Sh} {E:Value->Ra->Prop} {s:Ra} {I S T:Addr} {o:U3} {es:Array (Int × Value)} {ep:Nat} {t:VR}
def dG (pl:List Nat):List Value:=pl.map fun j:Nat=>Te (j:Int)
theorem Al {pl:List Nat} (hh:A.handled=none) (hne:S≠I) (hnt:T≠I) (hd:o.data = .set es ep t) (hf:t.fits es.size=true) (hp:pl.Perm (Uc es.size)) :
  Walks P w A I [I,S,T] [I] es.size (fun i v=>(pl.map fun j=>(es.getD j (0,.none)).2)[i]? = some v) (fun i h=>SIt h I S (.ref T) i es.size ep/\h.get? S=some o/\h.IsTuple T (dG pl).toArray) where
 sub:=fun b hb=>by simp at hb; simp [hb]
 frame:=fun i h h' st hk=>by
  obtain⟨hI,hS,o',ho',r⟩:=st
  exact⟨hk I (by simp) _ hI,hk S (by simp) _ hS,o',hk T (by simp) _ ho',r⟩
 item:=fun i s Q E hi st hQ=>by
  obtain⟨hI,hS,hT⟩:=st
  have lp:pl.length=es.size:=by rw[hp.length_eq,U6]
  have hT0:s.TypeIs (.ref I) "set_iterator":=⟨_,hI,rfl⟩
  obtain⟨j,hj⟩:∃ j,pl[i]? = some j:=⟨pl[i],Rn (by lia)⟩
  have hj2:j < es.size:=List.mem_range.mp (hp.mem_iff.mp (RL hj))
  have hx:es[j]? = some (es.getD j (0,.none)):=by
   rw[RT hj2,Uq,RT hj2]
   rfl
  obtain⟨ot,hot,hct,nt,hdt⟩:=id hT
  unfold Xh
  refine Q9 (YQ (Wx (name:=X4 "__next__") hT0 bC (Vr bC hT0 fj ?_ (fU _))))
  refine (show Rt _ _ (fieldsOf (.ref I) >>= _) _ _ s from Q9 (wpAny_fieldsOf hI rfl ?_))
  refine (show Rt _ _ (setEntries S >>= _) _ _ s from Q9 (Xi hS hd hf ?_))
  rw[if_neg (by simp)]
  refine (show Rt _ _ (seqItems? (.ref T) >>= _) _ _ s from Q9 (wpAny_seqItems hot hdt ?_))
  have hpl:(dG pl).toArray[(i:Int).toNat]? = some (.int (j:Int) 0):=by
   rw[Th,Yt]
   show (pl.map fun j:Nat=>Te (j:Int))[i]? = _
   rw[Rz,hj]
   rfl
  dsimp only
  rw[hpl]
  dsimp only
  refine Q9 (show Rt _ _ (setNextDrawn S (j:Int).toNat (ep:Int).toNat) _ _ _ from ?_)
  unfold setNextDrawn
  refine Q9 (VJ hS hd hf ?_)
  dsimp only
  rw[Th,Th,if_neg (by simp),hx]
  refine Rj (Q9 (Ut hI rfl (by simp) ?_))
  have g1:=R4 (Ub (·.setIfInBounds 1 (Te ((i:Int)+1)))) hI rfl
  refine Rj ⟨_,rfl,Rj (hQ _ _ s.toks ?_ ⟨g1,?_,?_⟩ fun b o' hb' e=>?_)⟩
  ·rw[Rz,hj]
   rfl
  ·rw[R8 _ _ (Tw hne)]
   exact hS
  ·exact⟨ot,by rw[R8 _ _ (Tw hnt)]; exact hot,hct,nt,hdt⟩
  ·rw[R8 _ _ (fun z:I=b=>hb' (by rw[z]; exact List.mem_singleton.mpr rfl))]
   exact e
 done:=fun s Q E st hQ=>by
  obtain⟨hI,hS,hT⟩:=st
  have lp:pl.length=es.size:=by rw[hp.length_eq,U6]
  have hT0:s.TypeIs (.ref I) "set_iterator":=⟨_,hI,rfl⟩
  obtain⟨ot,hot,hct,nt,hdt⟩:=id hT
  unfold Xh
  refine Q9 (YQ (Wx (name:=X4 "__next__") hT0 bC (Vr bC hT0 fj ?_ (fU _))))
  refine (show Rt _ _ (fieldsOf (.ref I) >>= _) _ _ s from Q9 (wpAny_fieldsOf hI rfl ?_))
  refine (show Rt _ _ (setEntries S >>= _) _ _ s from Q9 (Xi hS hd hf ?_))
  rw[if_neg (by simp)]
  refine (show Rt _ _ (seqItems? (.ref T) >>= _) _ _ s from Q9 (wpAny_seqItems hot hdt ?_))
  have hpl:(dG pl).toArray[(es.size:Int).toNat]? = none:=by
   rw[Th,Yt]
   show (pl.map fun j:Nat=>Te (j:Int))[es.size]? = _
   rw[Rz,VH (by lia)]
   rfl
  dsimp only
  rw[hpl]
  dsimp only
  refine Q9 (Ut hI rfl (by simp) ?_)
  have g1:=R4 (Ub (·.setIfInBounds 0 (Te 0))) hI rfl
  refine Q9 (Ut g1 rfl (by simp) ?_)
  refine (show Rt _ _ (newExc (.type "StopIteration") [] >>= _) _ _ _ from Q9 ?_)
  simp only[newExc,newTuple]
  refine Q9 (SN ?_ (by size_fits))
  refine Q9 (m:=Yu _ _) (ZR (a:=SQ) (by first | rfl | (simp only[Yu]; rfl)) (SN ?_ (by size_fits)))
  simp only[raiseNew]
  refine Q9 (wpAny_handled ?_)
  first | rw[show A.in1.handled=none from hh] | rw[hh]
  refine Q9 (Rj (wpAny_throw ?_))
  refine Q9 (ZC (T:="StopIteration") (b:=true) ⟨_,RK _ rfl,rfl⟩ isSubtype_stop (Rj ?_))
  refine hQ _ s.toks fun b o' hb' e=>?_
  have hbI:b≠I:=fun z=>hb' (by rw[z]; exact List.mem_singleton.mpr rfl)
  exact ((((Vb ..).trans (Vb ..)).extBut.push _).push _) b o' hbI e
 self:=fun i s Q E st hQ=>uz st.1 hQ
end
end L2
namespace L2
open PySem PySem.Spec PyProof.Rows
section
variable {P:RV} {w:Sv} {A:Sh} {E:Value->Ra->Prop} {s:Ra} {S:Addr}
theorem Gx {Q:Bool->Ra->Prop} (hT:s.TypeIs (.ref S) "set") (h:Q false s):Rt (Ru P w) A (Z7 (.ref S)) Q E s:=by
 unfold Z7; refine Q9 (wpAny_specialOf hT PySem.F.slot_set_len.lookup ?_)
 generalize hid:("set.__len__" : String)=id0
 wp_delta
 rw[show splitId id0=some ("set","__len__") from by subst hid; decide+kernel]
 subst hid
 refine Q9 (ZC (T:="set") (b:=true) hT (by rw[isSubtype_type]; kernel_rfl) ?_)
 refine Z0 (fun z=>absurd z (by decide)) (fun _=>Z0 (fun _=>?_) (fun z=>absurd (by decide+kernel) z))
 exact Q9 (wpAny_typeOf hT (Rj h))
theorem Gd {b:Bool} {ks:List Int} {Q:Value->Ra->Prop} (hh:A.handled=none) (hb:b=GP w) (hS:nu P w b s.heap S ks) (hz:ks.length<=sizeLine)
  (h:∀ (I:Addr) (fp:List Addr) (n:Nat) (vs:List Value) (ns:List Int) (St:Nat->Tf->Prop) (s':Ra),Walks P w A I fp [I] n (fun i v=>vs[i]? = some v) St->St 0 s'.heap->Ue vs ns->ns.Perm ks->vs.length=n->(∀ x∈fp,x=S∨s.heap.objs.size<=x)->s.heap.objs.size<=I →
   s'.os=s.os->s'.gens=s.gens->(∀ b o,s.heap.get? b=some o->s'.heap.get? b=some o)->Q (.ref I) s'):Rt (Ru P w) A (Y6 (.ref S)) Q E s:=by
 obtain⟨o,es,ep,t,ho,hx,hd,hel,hf,tk,ns,hi,hp⟩:=hS
 have hT:s.TypeIs (.ref S) "set":=⟨o,ho,hx.1⟩
 have hlt:S < s.heap.objs.size:=Ro ho
 refine wpAny_pyIter_slot hT PySem.F.slot_set_iter (Vr PySem.F.slot_set_iter hT qH ?_ (PySem.F.args_set_iter_1 _))
 refine (show Rt _ _ (Builtin.Frozenset.sizeOf S >>= _) _ _ s from ?_)
 unfold Builtin.Frozenset.sizeOf
 refine Q9 (Q9 (Xi ho hd hf (Rj ?_)))
 unfold setDrawn setsByText
 refine Q9 (Q9 (VJ ho hd hf ?_))
 dsimp only
 refine Q9 (Q9 (Vs (Rj (Rj ?_))))
 have hps:t.place.size=es.size:=by
  simp only[SetTable.fits,Rp,beq_iff_eq] at hf
  exact hf.1
 have hlen:(es.toList.map (·.2)).length=es.size:=by rw[Q8,Tt]
 have hez:es.size<=sizeLine:=by
  have h1:=hi.length
  have h2:=hp.length_eq
  lia
 have start:∀ (vs:List Value) (ns':List Int) (St:Nat->Tf->Prop),Walks P w A s.heap.objs.size [s.heap.objs.size,S] [s.heap.objs.size] es.size (fun i v=>vs[i]? = some v) St->(∀ h,SIt h s.heap.objs.size S (.int (0:Nat) 0) 0 es.size ep->h.get? S=some o->St 0 h) →
   Ue vs ns'->ns'.Perm ks->vs.length=es.size->Rt (Ru P w) A.in1 (do
    let first ← pure (Te 0)
    let e ← setEpoch S
    let r ← newFields "set_iterator" [first,Te 0,R5 S,Te (es.size:Int),Te (e:Int)]
    ret r) (fun fin s'=>∃ v,fin=Fin.done (Flow.ret v)/\∃ T' r,s'.TypeIs v T'/\Y5 (VN T') (X4 "__next__")=pure (some r)/\Q v s') E s:=fun vs ns' St W hst hi' hp' hl'=>by
  refine Q9 (Rj (Q9 (wpAny_setEpoch_of ho hd hf (Q9 (SN (Rj ?_))))))
  have g:(s.heap.push { cls:=.type "set_iterator",data:=.fields [Te 0,Te 0,R5 S,Te (es.size:Int),Te (ep:Int)].toArray }).get? s.heap.objs.size=some { cls:=.type "set_iterator",data:=.fields [Te 0,Te 0,R5 S,Te (es.size:Int),Te (ep:Int)].toArray }:=RK _ rfl
  refine⟨_,rfl,"set_iterator",_,⟨_,g,rfl⟩,bC.lookup,?_⟩
  refine h s.heap.objs.size [s.heap.objs.size,S] es.size vs ns' St _ W (hst _ g (Rb _ ho)) hi' hp' hl' (fun x hx'=>?_) (Rh _) rfl rfl fun b' o' e=>Rb _ e
  rcases List.mem_cons.mp hx' with rfl | hx'
  ·exact .inr (Rh _)
  ·exact .inl (List.mem_singleton.mp hx')
 have hne:S≠s.heap.objs.size:=RX hlt
 cases hB:w.params.followText "set-order" with
 | true =>
  refine Yh (decide_eq_false (show ¬ (!w.params.followText "set-order" && (!t.plain && decide (es.size > 1)))=true by rw[hB]; exact Rv)) ?_
  have pp:=qy (w.params.setOrder S ep) es
  obtain⟨ms,h1,h2⟩:=gG (pp.symm.map (·.2)) hi
  exact start _ ms _ (DY hh hne hB hd hf) (fun h' q1 q2=>⟨⟨0,0,q1⟩,q2⟩) h1 (h2.trans hp) (by rw[Q8,pp.length_eq,Tt])
 | false =>
  have hled:t.led=true:=by
   rw[tk.led,hb]
   unfold GP
   rw[hB]
   rfl
  cases hD:(!t.plain && decide (es.size > 1)) with
  | false =>
   refine Yh (decide_eq_false (show ¬ (!w.params.followText "set-order" && (!t.plain && decide (es.size > 1)))=true by rw[hD,YD]; exact Rv)) ?_
   have hpl:t.plain=true∨es.size<=1:=by
    rw[Bool.and_eq_false_iff] at hD
    rcases hD with q | q
    ·exact .inl (by simpa using q)
    ·exact .inr (by have:=of_decide_eq_false q; lia)
   have hris:Ris t.place:=by
    rcases hpl with q | q
    ·exact tk.ris q
    ·unfold Ris
     have hl1:t.place.toList.length<=1:=by rw[Tt]; lia
     generalize t.place.toList=l at hl1
     match l,hl1 with
     | [],_=>exact Xw
     | [x],_=>exact List.pairwise_singleton _ _
   exact start _ ns _ (zL hh hne hB hd hf hled hpl hris) (fun h' q1 q2=>⟨⟨0,q1⟩,q2⟩) hi hp hlen
  | true =>
   refine wpAny_ite_true (decide_eq_true (show (!w.params.followText "set-order" && (!t.plain && decide (es.size > 1)))=true by rw[hD,hB]; rfl)) ?_
   refine Q9 (wF es.size (Uc es.size) s U6 fun pl d pp=>?_)
   simp only[newTuple]
   have lp:pl.length=es.size:=by rw[pp.length_eq,U6]
   refine Q9 (SN ?_ (show (dG pl).toArray.size<=sizeLine by unfold dG; rw[Ry,Q8]; lia))
   have sz1:(s.heap.push { cls:=.type "tuple",data:=.seq (dG pl).toArray }).objs.size=s.heap.objs.size+1:=Uy _ _
   have gT:(s.heap.push { cls:=.type "tuple",data:=.seq (dG pl).toArray }).get? s.heap.objs.size=some { cls:=.type "tuple",data:=.seq (dG pl).toArray }:=RK _ rfl
   have ho1:(s.heap.push { cls:=.type "tuple",data:=.seq (dG pl).toArray }).get? S=some o:=Rb _ ho
   refine Q9 (wpAny_setEpoch_of (o:=o) (es:=es) (t:=t) ho1 hd hf (Q9 (SN (Rj ?_))))
   have g:((s.heap.push { cls:=.type "tuple",data:=.seq (dG pl).toArray }).push { cls:=.type "set_iterator",data:=.fields [R5 s.heap.objs.size,Te 0,R5 S,Te (es.size:Int),Te (ep:Int)].toArray }).get? (s.heap.push { cls:=.type "tuple",data:=.seq (dG pl).toArray }).objs.size=some { cls:=.type "set_iterator",data:=.fields [R5 s.heap.objs.size,Te 0,R5 S,Te (es.size:Int),Te (ep:Int)].toArray }:=RK _ rfl
   refine⟨_,rfl,"set_iterator",_,⟨_,g,rfl⟩,bC.lookup,?_⟩
   have hne1:S≠(s.heap.push { cls:=.type "tuple",data:=.seq (dG pl).toArray }).objs.size:=by
    rw[sz1]
    exact RX (U5 hlt)
   have hne2:s.heap.objs.size≠(s.heap.push { cls:=.type "tuple",data:=.seq (dG pl).toArray }).objs.size:=by
    rw[sz1]
    exact RX (W8 _)
   have hv:(pl.map fun j=>(es.getD j (0,.none)).2).Perm (es.toList.map (·.2)):=by
    refine (pp.map _).trans ?_
    have e:(Uc es.size).map (fun j=>(es.getD j (0,SQ)).2)=es.toList.map (·.2):=by
     apply List.ext_getElem?
     intro i
     have ea:es.toList[i]? = es[i]?:=UL
     rw[Rz,Rz,ea]
     by_cases hi':i < es.size
     ·rw[List.getElem?_range hi',RT hi']
      simp [Uq,RT hi']
     ·have er:(Uc es.size)[i]? = none:=VH (by rw[U6]; lia)
      rw[er,Vz (by lia)]
      rfl
    rw[e]
   have le1:s.heap.objs.size<=(s.heap.push { cls:=.type "tuple",data:=.seq (dG pl).toArray }).objs.size:=by
    rw[sz1]
    exact Ud _
   obtain⟨ms,h1,h2⟩:=gG hv.symm hi
   refine h _ [(s.heap.push { cls:=.type "tuple",data:=.seq (dG pl).toArray }).objs.size,S,s.heap.objs.size] es.size _ ms _ _ (Al (T:=s.heap.objs.size) hh hne1 hne2 hd hf pp) ⟨g,Rb _ ho1,_,Rb _ gT,rfl,0,rfl⟩ h1 (h2.trans hp) (by rw[Q8]; exact lp) (fun x hx'=>?_) le1 rfl rfl fun b' o' e=>Rb _ (Rb _ e)
   rcases List.mem_cons.mp hx' with rfl | hx'
   ·exact .inr le1
   ·rcases List.mem_cons.mp hx' with rfl | hx'
    ·exact .inl rfl
    ·exact .inr (by rw[List.mem_singleton.mp hx']; exact Rh _)
theorem wW {ks:List Int} {Q:List Value->Ra->Prop} (hh:A.handled=none) (hS:nu P w (GP w) s.heap S ks) (hz:ks.length<=sizeLine)
  (h:∀ (vs:List Value) (ns:List Int) (s':Ra),Ue vs ns->ns.Perm ks->s.heap.objs.size<=s'.heap.objs.size->s'.os=s.os->s'.gens=s.gens->(∀ b o,s.heap.get? b=some o->s'.heap.get? b=some o)->Q vs s'):Rt (Ru P w) A (collect (.ref S)) Q E s:=by
 obtain⟨o,es,ep,t,ho,hx,_⟩:=id hS
 have hlt:S < s.heap.objs.size:=Ro ho
 have hSl:s.heap.objs.size≠S:=Vx hlt
 unfold collect
 refine Q9 (wpAny_runValue (Wn PySem.F.entry_proto_collect ?_))
 rw[V9 PySem.F.plain_proto_collect _]
 refine (show Rt _ A.in1 (newList [] >>= fun l=>XJ (.builtin "list.__iadd__" ⟨[l,.ref S],[]⟩)) _ _ s from Q9 (SN ?_))
 refine Rj ⟨Xy PySem.F.plain_list_iadd _,Wn PySem.F.entry_list_iadd ?_⟩
 rw[V9 PySem.F.plain_list_iadd _]
 generalize hN:s.heap.push { cls:=.type "list",data:=.seq ([]:List Value).toArray }=h1
 have gL:h1.get? s.heap.objs.size=some { cls:=.type "list",data:=.seq ([]:List Value).toArray }:=by rw[← hN]; exact RK _ rfl
 have k1:∀ b o,s.heap.get? b=some o->h1.get? b=some o:=fun b o e=>by rw[← hN]; exact Rb _ e
 have sz1:h1.objs.size=s.heap.objs.size+1:=by rw[← hN]; exact Uy _ _
 have hT:Shared.TypeIs { s with heap:=h1 } (.ref S) "set":=⟨o,k1 _ _ ho,hx.1⟩
 refine (show Rt _ A.in1 (Z8 (.ref s.heap.objs.size) (.ref S) (.ref s.heap.objs.size)) _ _ { s with heap:=h1 } from ?_)
 unfold Z8; refine Q9 (wpAny_typeOf hT ?_)
 have q1:Builtin.List.listSameRef (.ref s.heap.objs.size) (.ref S)=false:=by simp [Builtin.List.listSameRef,hSl]
 have q2:(VN "set" == VN "list")=false:=by decide
 have q3:(VN "set" == VN "tuple")=false:=by decide
 simp only[q1,q2,q3,Bool.or_false,Bool.false_eq_true,if_false]
 refine Q9 (Gd (s:={ s with heap:=h1 }) hh rfl (mZ (fun o e=>k1 S o e) hS) hz fun I fp n vs ns St s2 W st hi hp hl hfp hI os2 gs2 k2=>?_)
 have gL2:=k2 _ _ gL
 have hTs:s2.TypeIs (.ref S) "set":=⟨o,k2 _ _ (k1 _ _ ho),hx.1⟩
 have hLf:s.heap.objs.size ∉ fp:=fun z=>by
  rcases hfp _ z with q | q
  ·exact hSl q
  ·have q':h1.objs.size<=s.heap.objs.size:=q
   rw[sz1] at q'
   exact absurd q' (Nat.not_succ_le_self _)
 have hz':n<=sizeLine:=by
  have e1:=hi.length
  have e2:=hp.length_eq
  lia
 have key:∀ (R:Yw->Ra->Prop),(∀ (s':Ra) (c':Nat),s'.heap.get? s.heap.objs.size=some { cls:=.type "list",dict:=none,data:=.seq vs.toArray c',slots:=#[] }->s'.os=s.os->s'.gens=s.gens->(∀ b o,s.heap.get? b=some o->s'.heap.get? b=some o)->R (.ok (.ret (.ref s.heap.objs.size))) s') →
   ∀ (h':Tf) (c tk:Nat),St 0 h'->(∀ b o,b≠s.heap.objs.size->s2.heap.get? b=some o->h'.get? b=some o)->h'.get? s.heap.objs.size=some { cls:=.type "list",data:=.seq #[] c } →
   T5 (Ru P w) A (.builtin "list.extend.loop" ⟨[.ref s.heap.objs.size,.ref I,.ref s.heap.objs.size],[]⟩) R { s2 with heap:=h',toks:=tk }:=fun R hR h' c tk st' kp gl=>by
  refine codeAny_extend_loopS W.toS hz' s.heap.objs.size hLf _ n 0 _ #[] c rfl (Sd _) st' gl (ItemsOf.nil _) fun s' acc' c' hm gL' hacc=>?_
  have eacc:acc'=vs.toArray:=by
   apply Array.ext_getElem?
   intro j
   have ev:vs.toArray[j]? = vs[j]?:=Yt
   rw[ev]
   by_cases hj:j < acc'.size
   ·have e:=hacc.2 j acc'[j] (RT hj)
    rw[RT hj]
    exact e.symm
   ·rw[Vz (by lia),VH (by have:=hacc.1; lia)]
  rw[eacc] at gL'
  refine hR s' c' gL' (hm.os.trans os2) (hm.gens.trans gs2) fun b o' e=>?_
  have hbl:b < s.heap.objs.size:=Ro e
  refine hm.heap b o' ?_ (kp b o' (RX hbl) (k2 _ _ (k1 _ _ e)))
  rw[Tu,Wu]
  rintro (z | z)
  ·exact absurd z (RX hbl)
  ·have q:h1.objs.size<=I:=hI
   rw[sz1,← z] at q
   exact absurd (Rm hbl (Nat.le_of_succ_le q)) (Sx _)
 refine Q9 (Ug (Gx hTs ?_))
 have fin:∀ (s':Ra) (c':Nat),s'.heap.get? s.heap.objs.size=some { cls:=.type "list",dict:=none,data:=.seq vs.toArray c',slots:=#[] }->s'.os=s.os->s'.gens=s.gens->(∀ b o,s.heap.get? b=some o->s'.heap.get? b=some o) →
   Rt (Ru P w) A (load s.heap.objs.size >>= fun o=>match o.data with | .seq xs _=>pure xs.toList | _=>unsupported "internal:collect") Q E s':=fun s' c' g e1 e2 e3=>Q9 (wpAny_load g (Rj (h vs ns s' hi hp (Vn (Ro g)) e1 e2 e3)))
 refine Z0 (fun _=>?_) (fun _=>Rj ⟨Xy PySem.F.plain_extend_loop _,key _ (fun s' c' g e1 e2 e3=>fin s' c' g e1 e2 e3) s2.heap _ s2.toks st (fun b o _ e=>e) gL2⟩)
 refine Q9 (YZ (Q9 (show Rt _ _ (updateSeq s.heap.objs.size (·.push .none) >>= fun _=>updateSeq s.heap.objs.size (·.pop)) _ _ _ from ?_)))
 refine Q9 (wpAny_updateSeq gL2 rfl ?_)
 have g3:=R4 (Ws (·.push SQ)) gL2 rfl
 refine wpAny_updateSeq (hz:=by seq_fits) g3 rfl ?_
 have g4:=R4 (Ws (·.pop)) g3 rfl
 have oth:∀ b o',b≠s.heap.objs.size->s2.heap.get? b=some o'->((s2.heap.update s.heap.objs.size (Ws (·.push SQ))).update s.heap.objs.size (Ws (·.pop))).get? b=some o':=fun b o' hb e=>by
  rw[R8 _ _ (Tw hb),R8 _ _ (Tw hb)]
  exact e
 exact Rj ⟨Xy PySem.F.plain_extend_loop _,key _ (fun s' c' g e1 e2 e3=>fin s' c' g e1 e2 e3) _ _ s2.toks (W.frame 0 _ _ st fun b hb o' e=>oth b o' (fun z=>hLf (by rw[← z]; exact hb)) e) oth g4⟩
end
end L2
namespace L2
open PySem PySem.Spec PyProof.Rows
section
variable {P:RV} {w:Sv} {A:Sh} {E:Value->Ra->Prop} {s:Ra} {S:Addr}
theorem Ab {ks:List Int} {Q:Value->Ra->Prop} (hh:A.handled=none) (hS:nu P w (GP w) s.heap S ks) (h64:ks.length < 64)
  (h:∀ (l:Addr) (vs:List Value) (ns:List Int) (c:Nat) (s':Ra),Ue vs ns->ns.Perm ks->ns.Pairwise (·<=·)->s'.heap.get? l=some { cls:=.type "list",data:=.seq vs.toArray c }->s.heap.objs.size<=l->s'.os=s.os->s'.gens=s.gens →
   (∀ b o,s.heap.get? b=some o->s'.heap.get? b=some o)->Q (.ref l) s'):Rt (Ru P w) A (call (.builtin "sorted") [.ref S]) Q E s:=by
 refine Calls.call_function_entry kind_sorted plain_sorted entry_sorted (args_sorted1 _) ?_
 unfold Builtin.«sorted»; refine Q9 (m:=checkCount "sorted" 1 1 _) (Rj ?_)
 refine Q9 (wW hh hS (Vn (Rm h64 (by decide))) fun vs ns s1 hi hp hsz os1 gs1 k1=>?_)
 have hl:vs.length < 64:=by
  have e1:=hi.length
  have e2:=hp.length_eq
  lia
 refine Q9 (wpAny_newList ?_)
 have g1:(s1.heap.push (seqObj "list" vs.toArray 0)).get? s1.heap.objs.size=some (seqObj "list" vs.toArray 0):=RK _ rfl
 refine Q9 (Ug (Vr slot_list_sort ⟨_,g1,rfl⟩ entry_list_sort (list_sort_tree g1 hi hl fun out ns' a1 a2 a3=>⟨_,rfl,?_⟩) (args_list_sort _)))
 obtain⟨c,hc⟩:=sortedHeap_at (out:=out) g1
 refine Rj ⟨_,rfl,h s1.heap.objs.size out.toList ns' c _ a1 (a2.trans hp) a3 ?_ hsz os1 gs1 fun b o e=>?_⟩
 ·exact hc
 ·have e1:=k1 b o e
  have lt:=Ro e1
  rw[sortedHeap_old (RX lt) (by rw[Uy]; exact U5 lt)]
  exact Rb _ e1
end
end L2
namespace L2
open PySem PySem.Spec PyProof.Rows
def ddI (ns:List Int):List Int:=firstMet (fun i=>ns.getD i 0) ns.length
theorem Inv.JM {X:Cx} {pins:List (Addr × U3)} {σ:St} {H:Hp} {s s':Ra} {l:Addr} {ys:List V} {its:List Value} {c:Nat} (I:Inv X pins σ H s) (ho:s'.os=s.os) (hg:s'.gens=s.gens) (k:∀ b u,s.heap.get? b=some u->s'.heap.get? b=some u)
  (hl:s.heap.objs.size<=l) (hv:Vals ys its) (hz:ys.length<=sizeLine) (g:s'.heap.get? l=some { cls:=.type "list",data:=.seq its.toArray c }):Inv X pins σ (upd H l (.lst ys)) s':=by
 have J:=I.laid (t':=s.toks) (o:=.lst ys) k hl ⟨hz,its,c,hv,g⟩
 exact⟨J.ok,ho.trans I.os,by rw[hg]; exact I.bare,J.base,J.loc,J.cell,J.free,J.freeC,J.pin,J.hok,J.len⟩
def tSS (K:R7) (te:TA):TE:=fun σ H Q=>te σ H fun xs H1=>∃ (a:Addr) (ns:List Int),xs=[.ref a]/\SqL K H1 a (ns.map V.int)/\ns.length<=4000/\(ddI ns).length < 64/\∀ ms:List Int,ms.Perm (ddI ns)->ms.Pairwise (·<=·)->∀ l,H1 l=none->Q (.ref l) (upd H1 l (.lst (ms.map V.int)))
theorem gF {X:Cx} {e:Expr} {te:TA} {p1 p2 q1 q2:Wi} (hc:X.calm=true) (hg1:Gl X "sorted") (hm1:X.mg "sorted" = none) (hg2:Gl X "set") (hm2:X.mg "set" = none) (ha:PA X [e] te)
  (hb1:Tj "sorted" = some (.builtin "sorted"):=by decide+kernel) (hb2:Tj "set" = some (.type "set"):=by decide+kernel)
  (he1:R9 [.Call (.Name "set" p2) [e] [] q2] X.env=(false,UG (.Call (.Name "set" p2) [e] [] q2) X.env)::R9 [] X.env:=by rfl) (hp1:(We q1 (R9 [] X.env)).any (·.1)=false:=by rfl)
  (he2:R9 [e] X.env=(false,UG e X.env)::R9 [] X.env:=by rfl) (hp2:(We q2 (R9 [] X.env)).any (·.1)=false:=by rfl) :
  PE X (.Call (.Name "sorted" p1) [.Call (.Name "set" p2) [e] [] q2] [] q1) (tSS X.K te):=by
 intro pins s σ H Q I h
 refine Uk (lW I hg1 hm1 hb1 ?_ (by decide) (by decide))
 refine ZL ?_ he1 hp1
 rw[he1]
 refine (show Rt _ _ (spliced ((false,UG (.Call (.Name "set" p2) [e] [] q2) X.env)::We q1 (R9 [] X.env))) _ _ s from Zg ?_)
 refine Uk (lW I hg2 hm2 hb2 ?_ (by decide) (by decide))
 refine Vc (thn (ha q2 pins s σ H _ I h) fun us s1 ⟨vs,H1,I1,r1,q⟩=>?_) he2 hp2
 obtain⟨a,ns,rfl,hq,hl,h64,hQ⟩:=q
 obtain⟨u,rfl,ru⟩:=vals1 r1
 cases ru
 obtain⟨its,rv,pl,_⟩:=I1.list hq
 have hi:Ue its ns:=intsAre_of rv
 have hsz:its.toArray.size=ns.length:=by rw[Ry]; exact hi.length
 refine xK (I1.ok.hd hc) pl.isList hi (by rw[hsz]; exact Sw (Nat.succ_le_succ hl) (by decide)) fun h' tk hS hk=>?_
 rw[hsz] at hS
 have I2:Inv X pins σ H1 { s1 with heap:=h',toks:=tk }:=I1.kept (t':=tk) fun b o e=>hk b o (Ro e) e
 refine (show Rt _ _ (spliced []) _ _ _ from Zy ?_)
 refine Ab (I1.ok.hd hc) hS h64 fun l vs ms c s3 hi3 hp3 hw3 g3 hl3 os3 gs3 k3=>?_
 have hml:(ms.map V.int).length<=sizeLine:=by
  rw[Q8,hp3.length_eq]
  exact Vn (Rm h64 (by decide))
 exact⟨.ref l,_,I2.JM os3 gs3 k3 hl3 (lU hi3) hml g3,rfl,hQ ms hp3 hw3 l (I2.hok.fresh hl3)⟩
end L2
namespace L2
open PySem PySem.Spec PyProof.Rows
mutual
def eqD:Dm->Dm->Bool
 | .tup ds,.tup es=>tV ds es
 | .lst ds,.lst es=>tV ds es
 | .tup _,_=>false
 | .lst _,_=>false
 | .non,.non=>true
 | .bl a,.bl b=>a == b
 | .bl a,.int b=>(if a then 1 else 0) == b
 | .int a,.bl b=>a == (if b then 1 else 0)
 | .int a,.int b=>a == b
 | .str a,.str b=>a == b
 | _,_=>false
def tV:List Dm->List Dm->Bool
 | [],[]=>true
 | d::ds,e::es=>eqD d e && tV ds es
 | _,_=>false
end
mutual
theorem pD:∀ d:Dm,eqD d d=true
 | .non=>by rw[eqD]
 | .bl b=>by rw[eqD]; exact beq_self_eq_true b
 | .int i=>by rw[eqD]; exact beq_self_eq_true i
 | .str x=>by rw[eqD]; exact beq_self_eq_true x
 | .tup ds=>by rw[eqD]; exact pU ds
 | .lst ds=>by rw[eqD]; exact pU ds
theorem pU:∀ ds:List Dm,tV ds ds=true
 | []=>by rw[tV]
 | d::r=>by rw[tV,pD d,pU r]; rfl
end
mutual
theorem Cg {H:Hp}:∀ {v:V} {d e:Dm},Rep H v d->Rep H v e->d=e
 | _,_,_,.non,h=>by cases h; rfl
 | _,_,_,.bl b,h=>by cases h; rfl
 | _,_,_,.int i,h=>by cases h; rfl
 | _,_,_,.str x,h=>by cases h; rfl
 | _,_,_,.tup h _ r,h2=>by
  cases h2 with
  | tup h' _ r' =>
   rw[h] at h'
   cases h'
   rw[mD r r']
  | lst h' _ _ =>
   rw[h] at h'
   cases h'
 | _,_,_,.lst h _ r,h2=>by
  cases h2 with
  | lst h' _ r' =>
   rw[h] at h'
   cases h'
   rw[mD r r']
  | tup h' _ _ =>
   rw[h] at h'
   cases h'
theorem mD {H:Hp}:∀ {vs:List V} {ds es:List Dm},eN H vs ds->eN H vs es->ds=es
 | _,_,_,.nil,h=>by cases h; rfl
 | _,_,_,.cons h r,h2=>by
  cases h2 with
  | cons h' r'=>rw[Cg h h',mD r r']
end
theorem ik : ∀ ds es : List Dm, ((Uc (min ds.length es.length)).all (fun j => eqD (ds.getD j .non) (es.getD j .non)) && ds.length == es.length) = tV ds es
  | [], [] => by rw [tV]; rfl
  | [], e :: es => by rw [tV]; · rfl
                      all_goals simp
  | d :: ds, [] => by rw [tV]; · rfl
                      all_goals simp
  | d :: ds, e :: es => by
    have ih := ik ds es
    have em : min (d :: ds).length (e :: es).length = min ds.length es.length + 1 := by rw [Rg, Rg]; lia
    have el : ((d :: ds).length == (e :: es).length) = (ds.length == es.length) := by simp
    rw [em, Yc, Wl, Xj, el, tV, ← ih, Bool.and_assoc]
    rfl
theorem zH {ds es:List Dm} (h:ds.length≠es.length):tV ds es=false:=by
 rw[← ik]
 have:(ds.length == es.length)=false:=by simpa using h
 rw[this,YD]
theorem vC {ds es:List Dm} (h:ds.length=es.length):(Uc ds.length).all (fun j=>eqD (ds.getD j .non) (es.getD j .non))=tV ds es:=by
 rw[← ik,← h,Nat.min_self,beq_self_eq_true,Bool.and_true]
section
variable {X:Cx} {pins:List (Addr × U3)} {s:Ra} {σ:St} {H:Hp}
theorem ir {vs:List V} {ds:List Dm} {its:List Value} (r:eN H vs ds) (rv:Vals vs its) {j:Nat} (h:j < its.length):∃ v,vs[j]? = some v/\RelV v its[j]/\Rep H v (ds.getD j .non):=by
 have l1:=rv.length
 obtain⟨v,d,e1,e2,e3⟩:=r.get (i:=j) (by lia)
 obtain⟨u,hu,ru⟩:=rv.get e1
 rw[Rn h] at hu
 cases hu
 exact⟨v,e1,ru,by rw[RZ,e2]; exact e3⟩
theorem o8 {ds:List Dm} {j:Nat} (h:j < ds.length):(ds.getD j .non).dep<=jb ds:=by
 rw[RZ,Rn h]
 exact oU (Rn h)
theorem jD (I : Inv X pins σ H s) (d e : Dm) (v u : V) (x y : Value) (A : Sh) (hd : d.dep = 0) (hu : A.units < cLine) (rv : Rep H v d) (ru : Rep H u e) (rx : RelV v x) (ry : RelV u y) : X5 A s x y (eqD d e) := by
  cases rv with
  | tup h l r => rw [Dm.dep] at hd; lia
  | lst h l r => rw [Dm.dep] at hd; lia
  | non =>
    cases rx
    cases ru with
    | tup h l r => cases ry; obtain ⟨its, _, p, _⟩ := I.tuple (SqT.of h); rw [eqD]; · exact SeqAt.EqAt.none_tuple (show s.heap.IsTuple _ its.toArray from p) hu
                   all_goals simp
    | lst h l r => cases ry; obtain ⟨its, _, p, _⟩ := I.list (SqL.of h); rw [eqD]; · exact SeqAt.EqAt.none_list p.isList hu
                   all_goals simp
    | non => cases ry; rw [eqD]; exact Yl _
    | bl b => cases ry; rw [eqD]; · exact SeqAt.EqAt.none_bool b
              all_goals simp
    | int b => obtain ⟨t, rfl⟩ := ry; rw [eqD]; · exact SeqAt.EqAt.none_int b t
               all_goals simp
    | str b => obtain ⟨t, rfl⟩ := ry; rw [eqD]; · exact SeqAt.EqAt.none_str b t
               all_goals simp
  | bl a =>
    cases rx
    cases ru with
    | tup h l r => cases ry; obtain ⟨its, _, p, _⟩ := I.tuple (SqT.of h); rw [eqD]; · exact SeqAt.EqAt.bool_tuple a (show s.heap.IsTuple _ its.toArray from p) hu
                   all_goals simp
    | lst h l r => cases ry; obtain ⟨its, _, p, _⟩ := I.list (SqL.of h); rw [eqD]; · exact SeqAt.EqAt.bool_list a p.isList hu
                   all_goals simp
    | non => cases ry; rw [eqD]; · exact SeqAt.EqAt.bool_none a
             all_goals simp
    | bl b => cases ry; rw [eqD]; exact SeqAt.EqAt.bool_bool a b
    | int b => obtain ⟨t, rfl⟩ := ry; rw [eqD]; exact SeqAt.EqAt.bool_int a b t
    | str b => obtain ⟨t, rfl⟩ := ry; rw [eqD]; · exact SeqAt.EqAt.bool_str a b t
               all_goals simp
  | int a =>
    obtain ⟨t', rfl⟩ := rx
    cases ru with
    | tup h l r => cases ry; obtain ⟨its, _, p, _⟩ := I.tuple (SqT.of h); rw [eqD]; · exact SeqAt.EqAt.int_tuple a t' (show s.heap.IsTuple _ its.toArray from p) hu
                   all_goals simp
    | lst h l r => cases ry; obtain ⟨its, _, p, _⟩ := I.list (SqL.of h); rw [eqD]; · exact SeqAt.EqAt.int_list a t' p.isList hu
                   all_goals simp
    | non => cases ry; rw [eqD]; · exact SeqAt.EqAt.int_none a t'
             all_goals simp
    | bl b => cases ry; rw [eqD]; exact SeqAt.EqAt.int_bool a t' b
    | int b => obtain ⟨t, rfl⟩ := ry; rw [eqD]; exact Xn a t' b t
    | str b => obtain ⟨t, rfl⟩ := ry; rw [eqD]; · exact Zb a t' b t
               all_goals simp
  | str a =>
    obtain ⟨t', rfl⟩ := rx
    cases ru with
    | tup h l r => cases ry; obtain ⟨its, _, p, _⟩ := I.tuple (SqT.of h); rw [eqD]; · exact SeqAt.EqAt.str_tuple a t' (show s.heap.IsTuple _ its.toArray from p) hu
                   all_goals simp
    | lst h l r => cases ry; obtain ⟨its, _, p, _⟩ := I.list (SqL.of h); rw [eqD]; · exact SeqAt.EqAt.str_list a t' p.isList hu
                   all_goals simp
    | non => cases ry; rw [eqD]; · exact SeqAt.EqAt.str_none a t'
             all_goals simp
    | bl b => cases ry; rw [eqD]; · exact SeqAt.EqAt.str_bool a t' b
              all_goals simp
    | int b => obtain ⟨t, rfl⟩ := ry; rw [eqD]; · exact Y9 a t' b t
               all_goals simp
    | str b => obtain ⟨t, rfl⟩ := ry; rw [eqD]; exact SeqAt.EqAt.str_str a t' b t
theorem yK (I : Inv X pins σ H s) : ∀ (n : Nat) (d e : Dm) (v u : V) (x y : Value) (A : Sh), d.dep ≤ n → A.units + n < cLine → Rep H v d → Rep H u e → RelV v x → RelV u y → X5 A s x y (eqD d e) := by
  intro n
  induction n with
  | zero =>
    intro d e v u x y A hd hu rv ru rx ry
    exact jD I d e v u x y A (by lia) (by lia) rv ru rx ry
  | succ n ih =>
    intro d e v u x y A hd hu rv ru rx ry
    have hu0 : A.units < cLine := by lia
    have hu1 : A.in1.units + n < cLine := by show A.units + 1 + n < cLine; lia
    cases rv with
    | @tup a xs ds h l r =>
      cases rx
      rw [Dm.dep] at hd
      obtain ⟨its, vl, p, _⟩ := I.tuple (SqT.of h)
      have p : s.heap.IsTuple a its.toArray := p
      cases ru with
      | @tup b ys es h' l' r' =>
        cases ry
        by_cases hab : a = b
        · subst hab
          rw [h] at h'
          cases h'
          rw [mD r r', pD]
          exact Yl _
        · obtain ⟨its', vl', p', _⟩ := I.tuple (SqT.of h')
          have p' : s.heap.IsTuple b its'.toArray := p'
          have q := SeqAt.RcAt.tuples (e := fun j => eqD (ds.getD j .non) (es.getD j .non)) p p' hu0 fun j h1 h2 => by
            have h1 : j < its.length := by simpa using h1
            have h2 : j < its'.length := by simpa using h2
            obtain ⟨v1, _, r1, p1⟩ := ir r vl h1
            obtain ⟨v2, _, r2, p2⟩ := ir r' vl' h2
            rw [TQ, TQ]
            refine ih _ _ v1 v2 _ _ _ ?_ hu1 p1 p2 r1 r2
            have := o8 (ds := ds) (j := j) (by have := r.length; have := vl.length; lia)
            lia
          have el : its.toArray.size = ds.length := by rw [Ry, ← vl.length, r.length]
          have el' : its'.toArray.size = es.length := by rw [Ry, ← vl'.length, r'.length]
          rw [el, el', ik] at q
          rw [eqD]
          exact Za hab q
      | lst h' l' r' => cases ry; obtain ⟨its', _, p', _⟩ := I.list (SqL.of h'); rw [eqD]; · exact SeqAt.EqAt.tuple_list p p'.isList hu0
                        all_goals simp
      | non => cases ry; rw [eqD]; · exact SeqAt.EqAt.tuple_none p hu0
               all_goals simp
      | bl b => cases ry; rw [eqD]; · exact SeqAt.EqAt.tuple_bool b p hu0
                all_goals simp
      | int b => obtain ⟨t, rfl⟩ := ry; rw [eqD]; · exact SeqAt.EqAt.tuple_int b t p hu0
                 all_goals simp
      | str b => obtain ⟨t, rfl⟩ := ry; rw [eqD]; · exact SeqAt.EqAt.tuple_str b t p hu0
                 all_goals simp
    | @lst a xs ds h l r =>
      cases rx
      rw [Dm.dep] at hd
      obtain ⟨its, vl, p, _⟩ := I.list (SqL.of h)
      cases ru with
      | @lst b ys es h' l' r' =>
        cases ry
        by_cases hab : a = b
        · subst hab
          rw [h] at h'
          cases h'
          rw [mD r r', pD]
          exact Yl _
        · obtain ⟨its', vl', p', _⟩ := I.list (SqL.of h')
          have el : its.toArray.size = ds.length := by rw [Ry, ← vl.length, r.length]
          have el' : its'.toArray.size = es.length := by rw [Ry, ← vl'.length, r'.length]
          rw [eqD]
          by_cases hl : ds.length = es.length
          · have q := SeqAt.RcAt.lists (e := fun j => eqD (ds.getD j .non) (es.getD j .non)) p.isList p'.isList (by rw [el, el']; exact hl) hu0 fun j h1 h2 => by
              have h1 : j < its.length := by simpa using h1
              have h2 : j < its'.length := by simpa using h2
              obtain ⟨v1, _, r1, p1⟩ := ir r vl h1
              obtain ⟨v2, _, r2, p2⟩ := ir r' vl' h2
              rw [TQ, TQ]
              refine ih _ _ v1 v2 _ _ _ ?_ hu1 p1 p2 r1 r2
              have := o8 (ds := ds) (j := j) (by have := r.length; have := vl.length; lia)
              lia
            rw [el, vC hl] at q
            exact Za hab q
          · rw [zH hl]
            exact Za hab (SeqAt.RcAt.lists_lengths p.isList p'.isList (by rw [el, el']; simpa using hl) hu0)
      | tup h' l' r' => cases ry; obtain ⟨its', _, p', _⟩ := I.tuple (SqT.of h'); rw [eqD]; · exact SeqAt.EqAt.list_tuple p.isList (show s.heap.IsTuple _ its'.toArray from p') hu0
                        all_goals simp
      | non => cases ry; rw [eqD]; · exact SeqAt.EqAt.list_none p.isList hu0
               all_goals simp
      | bl b => cases ry; rw [eqD]; · exact SeqAt.EqAt.list_bool b p.isList hu0
                all_goals simp
      | int b => obtain ⟨t, rfl⟩ := ry; rw [eqD]; · exact SeqAt.EqAt.list_int b t p.isList hu0
                 all_goals simp
      | str b => obtain ⟨t, rfl⟩ := ry; rw [eqD]; · exact SeqAt.EqAt.list_str b t p.isList hu0
                 all_goals simp
    | non => exact jD I _ e _ u _ y A rfl hu0 .non ru rx ry
    | bl b => exact jD I _ e _ u _ y A rfl hu0 (.bl b) ru rx ry
    | int i => exact jD I _ e _ u _ y A rfl hu0 (.int i) ru rx ry
    | str z => exact jD I _ e _ u _ y A rfl hu0 (.str z) ru rx ry
end
end L2
namespace L2
open PySem PySem.Spec PyProof.Rows
section
variable {X:Cx} {k:Nat}
def Ih:R2:=fun x y H Q=>∃ (d:Dm) (z:Str),Rep H x d/\y = .str z/\Q (.bl (eqD d (.str z))) H
theorem qX (hr : gB k X.A) : OpR X (T6 .Eq) Ih := by
  intro pins s σ H x y v u Q I rx ry h
  obtain ⟨d, z, rp, rfl, q⟩ := h
  have flat : Qc x (.str z) = true → decide (x = .str z) = eqD d (.str z) → Rt (Ru X.prog X.w) X.A (T6 .Eq v u) (EP X pins σ Q) X.xe s := fun h1 h2 => cD pins s σ H x (.str z) v u Q I rx ry ⟨h1, by rw [h2]; exact q⟩
  cases rp with
  | @tup a0 xs0 ds0 h l r =>
    cases rx
    obtain ⟨t, rfl⟩ := ry
    obtain ⟨its, _, p, _⟩ := I.tuple (SqT.of h)
    have e : eqD (.tup ds0) (.str z) = false := by rw [eqD]; simp
    rw [e] at q
    exact SeqAt.RcAt.tuple_str z t (show s.heap.IsTuple _ its.toArray from p) hr.pQ X.prog X.w X.xe _ ⟨.bl false, H, I, rfl, q⟩
  | @lst a0 xs0 ds0 h l r =>
    cases rx
    obtain ⟨t, rfl⟩ := ry
    obtain ⟨its, _, p, _⟩ := I.list (SqL.of h)
    have e : eqD (.lst ds0) (.str z) = false := by rw [eqD]; simp
    rw [e] at q
    exact SeqAt.RcAt.list_str z t p.isList hr.pQ X.prog X.w X.xe _ ⟨.bl false, H, I, rfl, q⟩
  | non => exact flat rfl (by rw [eqD]; · simp
                              all_goals simp)
  | bl b => exact flat rfl (by rw [eqD]; · simp
                               all_goals simp)
  | int i => exact flat rfl (by rw [eqD]; · simp
                                all_goals simp)
  | str x => exact flat rfl (by rw [eqD]; exact ye)
theorem Fl {H:Hp} {v v':V} {d d':Dm} {x:Value} (r:Rep H v d) (r':Rep H v' d') (h:RelV v x) (h':RelV v' x):d=d':=by
 have e:v=v':=by
  cases r <;> cases r' <;> first
   | rfl
   | (obtain⟨t,e⟩:=h; obtain⟨t',e'⟩:=h'; rw[e] at e'; cases e'; rfl)
   | (obtain⟨t,e⟩:=h; obtain⟨t',e'⟩:=h'; rw[e] at e'; cases e'; done)
   | (obtain⟨t,e⟩:=h; have h':_=_:=h'; rw[e] at h'; cases h'; done)
   | (obtain⟨t,e⟩:=h'; have h:_=_:=h; rw[e] at h; cases h; done)
   | (have h:_=_:=h; have h':_=_:=h'; rw[h] at h'; cases h'; rfl)
   | (have h:_=_:=h; have h':_=_:=h'; rw[h] at h'; cases h'; done)
 subst e
 exact Cg r r'
end
end L2
namespace L2
open PySem PySem.Spec PyProof.Rows
section
variable {X:Cx} {k:Nat}
def Mg (n:Nat) (neg:Bool):R2:=fun x y H Q=>∃ (d:Dm) (p:Addr) (ys:List V) (es:List Dm),Rep H x d/\y = .ref p/\H p=some (.lst ys)/\eN H ys es/\jb es<=n/\Q (.bl (if neg then !es.any (fun e=>eqD e d) else es.any fun e=>eqD e d)) H
theorem G3 {pins:List (Addr × U3)} {s:Ra} {σ:St} {H:Hp} {x:V} {v:Value} {d:Dm} {p:Addr} {ys:List V} {es:List Dm} {n:Nat} (I:Inv X pins σ H s) (rx:RelV x v) (rp:Rep H x d) (hp:H p=some (.lst ys)) (re:eN H ys es) (hd:jb es<=n) (hu:X.A.units+1+n < cLine) :
  ∃ (its:Array Value) (f:Value->Bool),s.heap.IsList p its/\(∀ y,y∈its->X5 X.A.in1 s y v (f y))/\its.any f=es.any fun e=>eqD e d:=by
 obtain⟨its,vl,pt,_⟩:=I.list (SqL.of hp)
 have lv:=vl.length
 have le:=re.length
 have hat:∀ j (h:j < its.length),∃ v',RelV v' its[j]/\Rep H v' (es.getD j .non):=fun j h=>by
  obtain⟨v',_,r1,p1⟩:=ir re vl h
  exact⟨v',r1,p1⟩
 have hf:∃ f:Value->Bool,∀ j (h:j < its.length),f its[j]=eqD (es.getD j .non) d:=by
  classical
  refine⟨fun y=>decide (∃ j,∃ h:j < its.length,its[j]=y/\eqD (es.getD j .non) d=true),fun j h=>?_⟩
  cases hq:eqD (es.getD j .non) d with
  | true=>exact decide_eq_true ⟨j,h,rfl,hq⟩
  | false =>
   refine decide_eq_false ?_
   rintro⟨i,hi,e,q⟩
   obtain⟨v1,a1,b1⟩:=hat i hi
   obtain⟨v2,a2,b2⟩:=hat j h
   rw[e] at a1
   rw[Fl b1 b2 a1 a2,hq] at q
   cases q
 obtain⟨f,hf⟩:=hf
 refine⟨its.toArray,f,pt.isList,fun y hy=>?_,?_⟩
 ·obtain⟨j,hj,rfl⟩:=Wg (show y∈its by simpa using hy)
  obtain⟨v',r1,p1⟩:=hat j hj
  rw[hf j hj]
  refine yK I n _ _ v' x _ _ _ ?_ (show X.A.units+1+n < cLine from hu) p1 rp r1 rx
  have:=o8 (ds:=es) (j:=j) (by lia)
  lia
 ·rw[List.any_toArray,Td,ZM,ZM]
  constructor
  ·rintro⟨y,hy,q⟩
   obtain⟨j,hj,rfl⟩:=Wg hy
   rw[hf j hj] at q
   have hj':j < es.length:=by lia
   exact⟨es.getD j .non,by rw[RZ,Rn hj']; exact Wb hj',q⟩
  ·rintro⟨e,he,q⟩
   obtain⟨j,hj,rfl⟩:=Wg he
   have hj':j < its.length:=by lia
   exact⟨its[j],Wb hj',by rw[hf j hj',RZ,Rn hj]; exact q⟩
end
end L2
namespace L2
open PySem PySem.Spec PyProof.Rows
section
variable {prog:RV} {w:Sv} {A:Sh} {R:Yw->Ra->Prop} {E:Value->Ra->Prop} {s:Ra}
end
section
variable {X:Cx}
def HF (K:R7):List V->Hp->VK->Prop:=fun xs H Q=>∃ (p:Addr) (ns:List Int),xs=[.ref p]/\SqL K H p (ns.map V.int)/\ns.length < 64/\∀ ms:List Int,ms.Perm ns->ms.Pairwise (·<=·)->∀ l,H l=none->Q (.ref l) (upd H l (.lst (ms.map V.int)))
theorem Ay:je X (.builtin "sorted") (HF X.K):=by
 intro pins s σ H xs us Q I r h
 obtain⟨p,ns,rfl,hq,h64,q⟩:=h
 obtain⟨u,rfl,ru⟩:=vals1 r
 cases ru
 obtain⟨its,rv,pl,hz⟩:=I.list hq
 have hi:Ue its ns:=intsAre_of rv
 refine sorted_ints pl.isList hi (by have:=hi.length; lia) fun out ns' a1 a2 a3=>?_
 obtain⟨e,he⟩:=sortedAll_at s.heap its out
 have hml:(ns'.map V.int).length<=sizeLine:=by
  rw[Q8,a2.length_eq]
  exact Vn (Rm h64 (by decide))
 exact⟨.ref _,_,I.JM rfl rfl (fun _ _=>sortedAll_old) (Ud _) (lU a1) hml he,rfl,q ns' a2 a3 _ (I.hok.fresh (Ud _))⟩
end
end L2
namespace L2
open PySem PySem.Spec PyProof.Rows
def Itn (K : R7) (a : Addr) : It :=
  ⟨fun i H => ∃ xs x, SqL K H a xs ∧ xs[i]? = some x,
   fun i H v H' => ∃ p x, H p = none ∧ v = .ref p ∧ (∀ xs, SqL K H a xs → xs[i]? = some x) ∧ H' = upd H p (.tup [.int (i : Int), x]),
   fun i H => ∃ xs, SqL K H a xs ∧ xs.length ≤ i⟩
def tnN (e it a:Addr) (i:Nat) (h:Tf):Prop:=(∃ old,IsEnum h e it (i:Int) old)/\h.IsListIter it a i
theorem Eg {P:RV} {w:Sv} {K:R7} {elts:List Expr} {x1} {pos:Wi} {e it a:Addr} (hne:e≠it) :
  Turn P w K (.Tuple elts x1 pos) (Itn K a) [e,it] e (tnN e it a) where
 mem:=by simp
 obj:=fun i h st c hc=>by
  obtain⟨⟨old,he⟩,⟨o,ho,_,d⟩⟩:=st
  simp only[Tu,T7,or_false] at hc
  rcases hc with rfl | rfl
  ·exact⟨_,he,fun v z=>by cases z⟩
  ·exact⟨_,ho,fun v z=>by rw[d] at z; cases z⟩
 keep:=fun i h h' st k=>by
  obtain⟨⟨old,he⟩,j⟩:=st
  exact⟨⟨old,k e (by simp) _ he⟩,j.at fun o q=>k it (by simp) o q⟩
 item:=by
  intro X hP hw hK hc i pins s σ H E I hf st hg
  subst hP hw hK
  obtain⟨xs,x,hx,ex⟩:=hg
  obtain⟨⟨old,he⟩,j⟩:=st
  obtain⟨its,rv,pl,_⟩:=I.list hx
  obtain⟨xu,hxu,rx⟩:=rv.get ex
  refine wpAny_pyNext_enum_item he j pl.isList (x:=xu) (by simpa using hxu) hne fun h' e1 j1 t1 z1 kp=>⟨_,rfl,?_⟩
  refine wpAny_letOwnedTupleGo_enum e1 fun h2 e2 b2=>?_
  have el:e < s.heap.objs.size:=Ro he
  have il:it < s.heap.objs.size:=by obtain⟨o,q,_⟩:=j; exact Ro q
  have I1:Inv X pins σ (upd H s.heap.objs.size (.tup [.int (i:Int),x])) { s with heap:=s.heap.push { cls:=.type "tuple",data:=.seq #[.int i s.toks,xu] },toks:=s.toks+1 } :=
   I.laid (t':=s.toks+1) (fun _ _ q=>Rb _ q) (Rh _) ⟨by show 2<=sizeLine; decide,[.int i s.toks,xu],.cons ⟨_,rfl⟩ (.cons rx .nil),⟨_,RK _ rfl,rfl,_,rfl⟩⟩
  have ff:∀ c∈[e,it],sU X pins (upd H s.heap.objs.size (.tup [.int (i:Int),x])) c:=fun c hc=>by
   obtain⟨f0,fr⟩:=hf c hc
   have cl:c < s.heap.objs.size:=by
    simp only[Tu,T7,or_false] at hc
    rcases hc with rfl | rfl
    ·exact el
    ·exact il
   exact⟨by rw[aR (RX cl)]; exact f0,fr⟩
  have kk:∀ c o,c ∉ [e,it]->(s.heap.push { cls:=.type "tuple",data:=.seq #[.int i s.toks,xu] }).get? c=some o->h2.get? c=some o:=fun c o hc q=>by
   have c1:c≠e:=fun h=>hc (by simp [h])
   have c2:c≠it:=fun h=>hc (by simp [h])
   refine (b2.2 c c1).trans ?_
   rcases Heap.get?_push_cases q with⟨ec,eo⟩ | q'
   ·subst ec
    subst eo
    exact t1
   ·exact kp c o c1 c2 q'
  have I2:Inv X pins σ (upd H s.heap.objs.size (.tup [.int (i:Int),x])) { s with heap:=h2,toks:=s.toks+1 } :=
   Inv.sZ (s:={ s with heap:=s.heap.push { cls:=.type "tuple",data:=.seq #[.int i s.toks,xu] },toks:=s.toks+1 }) (h':=h2) (t':=s.toks+1) (ch:=[e,it]) I1 kk ff
  refine⟨.ref s.heap.objs.size,_,I2,rfl,⟨_,x,I.fresh,rfl,fun zs hzs=>?_,rfl⟩,⟨⟨_,e2⟩,j1.at fun o q=>(b2.2 it (Tw hne)).trans q⟩,fun c hc=>(ff c hc).1⟩
  rw[I.yI hzs hx]; exact ex
 done:=by
  intro X hP hw hK hc i pins s σ H E I hf st hg
  subst hP hw hK
  obtain⟨xs,hx,hend⟩:=hg
  obtain⟨⟨old,he⟩,j⟩:=st
  obtain⟨its,rv,pl,_⟩:=I.list hx
  have l1:=rv.length
  refine wpAny_pyNext_enum_end (I.ok.hd hc) he j pl.isList (by simp; lia) fun h' eb=>⟨rfl,?_⟩
  exact I.sZ (t':=s.toks) (ch:=[e,it]) (fun c o hc q=>eb c o (fun h=>hc (by simp [h])) q) hf
 self:=fun _ _ _ _ _ st h=>by
  obtain⟨⟨old,he⟩,_⟩:=st
  exact Xr he h
def Ox (K:R7) (ta:TA):TI:=fun σ H R=>ta σ H fun vs H1=>∃ a xs,vs=[.ref a]/\H1 a=some (.lst xs)/\R (Itn K a) H1
theorem KD {X:Cx} {elts:List Expr} {x1} {tpos:Wi} {a:Expr} {ta:TA} {p pos:Wi} (hg:Gl X "enumerate") (hm:X.mg "enumerate" = none) (ha:PA X [a] ta) (hs:R9 [a] X.env=[(false,UG a X.env)]:=by rfl) :
  PI X (.Tuple elts x1 tpos) (.Call (.Name "enumerate" p) [a] [] pos) (Ox X.K ta):=by
 intro pins s σ H R I h
 refine Call_ (lW I hg hm boot_enumerate (Vc (thn (ha pos pins s σ H _ I h) fun us s1 ⟨vs,H1,I1,r1,q1⟩=>?_) hs rfl))
 obtain⟨c,xs,e,hx,q⟩:=q1
 subst e
 obtain⟨u1,rfl,ru1⟩:=vals1 r1
 cases ru1
 obtain⟨z,its,n,rv,ho⟩:=I1.hok c _ hx
 refine call_enumerate_1 ho fun h' e1 j1 _ kp=>?_
 have en:s1.heap.objs.size+1≠s1.heap.objs.size:=Vx (W8 _)
 refine Xr e1 ⟨_,_,_,_,H1,rfl,I1.kept (t':=s1.toks) kp,Eg (a:=c) en,⟨⟨_,e1⟩,j1⟩,fun b hb=>?_,q⟩
 have hle:s1.heap.objs.size<=b:=by
  simp only[Tu,T7,or_false] at hb
  rcases hb with rfl | rfl
  ·exact Ud _
  ·exact Rh _
 exact I1.J4 hle (I1.hok.fresh hle)
theorem FN {K:R7} {a:Addr} {xs:List V} {g:TG} {tb:TS} {D:Ends} {σ:St} {H:Hp} (Pv:Nat->St->Hp->Prop) (h0:Pv 0 σ H) (hl:∀ i σ H,i<=xs.length->Pv i σ H->SqL K H a xs)
  (hs:∀ i x p σ H,xs[i]? = some x->H p=none->Pv i σ H->g (.ref p) σ (upd H p (.tup [.int (i:Int),x])) fun σ2 H2=>tb { D with nx:=Pv (i+1),ct:=Pv (i+1),bk:=D.nx } σ2 H2) (hd:∀ σ H,Pv xs.length σ H->D.nx σ H) :
  ∃ W:Nat->Nat->St->Hp->Prop,(∃ m,W 0 m σ H)/\∀ i m σ H,W i m σ H →
   ((Itn K a).stop i H/\D.nx σ H)∨((Itn K a).go i H/\∃ N:St->Hp->Prop,(∀ σ' H',N σ' H'->∃ m',m' < m/\W (i+1) m' σ' H')/\∀ x H',(Itn K a).yld i H x H'->g x σ H' fun σ2 H2=>tb { D with nx:=N,ct:=N,bk:=D.nx } σ2 H2):=by
 refine⟨fun i m σ H=>m=xs.length - i/\i<=xs.length/\Pv i σ H,⟨xs.length,by simp,Sd _,h0⟩,?_⟩
 rintro i m σ H ⟨rfl,hi,p⟩
 have q1:=hl i σ H hi p
 by_cases hlt:i < xs.length
 ·refine .inr ⟨⟨xs,xs[i],q1,by simp [hlt]⟩,Pv (i+1),fun σ' H' p'=>⟨xs.length - (i+1),by lia,rfl,hlt,p'⟩,fun v H' y=>?_⟩
  obtain⟨pp,x,hp,rfl,hx,rfl⟩:=y
  exact hs i x pp σ _ (hx xs q1) hp p
 ·have e:i=xs.length:=by lia
  subst e
  exact .inl ⟨⟨xs,q1,Rh _⟩,hd σ H p⟩
end L2
namespace L2
open PySem PySem.Spec PyProof.Rows
section
variable {X:Cx} {k:Nat}
end
end L2
namespace L2
open PySem PySem.Spec PyProof.Rows
theorem G5 {X:Cx} {tg l:Expr} {tl:TE} (K:R7) (hK:X.K=K) (hl:PE X l tl):PI X tg l (JP K tl):=by
 subst hK
 exact fD hl
end L2
namespace L2
open PySem PySem.Spec PyProof.Rows
theorem wJ (elt t0 i0 t1 i1:Expr) (scope:Va) (pos:Wi) (it acc:Value) (env:WQ) :
  Zj (.ListComp elt [⟨t0,i0,[],0⟩,⟨t1,i1,[],0⟩] scope pos) 0 it acc env=(do
   Xu i0.pos
   match ← Xh it with
   | none=>pure (.done .next)
   | some v =>
    U8 t0 it v
    Xz t0 env v
    let x ← UG i1 env
    Xu i1.pos
    let x ← Uu i1 env x
    let _ ← runOwn (.compStart (.ListComp elt [⟨t0,i0,[],0⟩,⟨t1,i1,[],0⟩] scope pos) 1 (← YF [x] (Y6 x)) acc env) env
    XJ (.compLoop (.ListComp elt [⟨t0,i0,[],0⟩,⟨t1,i1,[],0⟩] scope pos) 0 it acc env)):=by rfl
theorem wK (elt t0 i0 t1 i1:Expr) (scope:Va) (pos:Wi) (it acc:Value) (env:WQ) :
  Zj (.ListComp elt [⟨t0,i0,[],0⟩,⟨t1,i1,[],0⟩] scope pos) 1 it acc env=(Xu i1.pos >>= fun _=>Xh it >>= fun r=>match r with
   | none=>pure (.done .next)
   | some v=>U8 t1 it v >>= fun _=>Xz t1 env v >>= fun _ =>
    (UG elt env >>= fun x=>call (.builtin "list.append") [acc,x] >>= fun _=>pure ()) >>= fun _ =>
     XJ (.compLoop (.ListComp elt [⟨t0,i0,[],0⟩,⟨t1,i1,[],0⟩] scope pos) 1 it acc env)):=by rfl
section
variable {prog:RV} {w:Sv} {A:Sh} {R:Yw->Ra->Prop} {s:Ra} {elt t0 i0 t1 i1:Expr} {scope:Va} {pos:Wi} {it acc:Value} {env:WQ}
theorem wA (h0:T5 (Ru prog w) A (.compLoop (.ListComp elt [⟨t0,i0,[],0⟩,⟨t1,i1,[],0⟩] scope pos) 1 it acc env) R s)
  (h:Rt (Ru prog w) A (Y6 it) (fun it' s'=>T5 (Ru prog w) A (.compLoop (.ListComp elt [⟨t0,i0,[],0⟩,⟨t1,i1,[],0⟩] scope pos) 1 it' acc env) R s') (notedBy (Ru prog w) A env fun x s'=>R (.error x) s') s) :
  T5 (Ru prog w) A (.compStart (.ListComp elt [⟨t0,i0,[],0⟩,⟨t1,i1,[],0⟩] scope pos) 1 it acc env) R s:=by
 refine Yk ?_
 show Rt _ _ ((compStart (.ListComp elt [⟨t0,i0,[],0⟩,⟨t1,i1,[],0⟩] scope pos) 1 it acc env).onRaise (fun x=>do U4 x env; Xu theWindowsPlace)) _ _ s
 refine wpAny_notedAt ?_
 unfold compStart
 show Rt _ _ (ask >>= _) _ _ s
 refine Q9 (Vs (wpAny_ite ?_))
 split
 ·first
   | exact Q9 (Rj (Rj (And.intro rfl h0)))
   | exact Rj (And.intro rfl h0)
 ·first
   | exact Q9 (YZ (Q9 (UW (Q9 (Su h (fun it' s' h'=>Rj (And.intro rfl h')) fun _ _ x=>x)))))
   | (refine Q9 (YZ ?_); show Rt _ _ (Xu i1.pos >>= _) _ _ s; exact Q9 (UW (Q9 (Su h (fun it' s' h'=>Rj (And.intro rfl h')) fun _ _ x=>x))))
abbrev noX:Value->Ra->Prop:=fun _ _=>False
theorem gW {E:Value->Ra->Prop} (x:Value) (s':Ra) (z:noX x s'):E x s':=z.elim
theorem vq (hs1:∀ x,Uu i1 env x=pure x) (I:Nat->Ra->Prop)
  (turn:∀ n s,I n s->Rt (Ru prog w) A (Xh it) (fun r s₁=>match r with
   | none=>R (.ok .next) s₁
   | some v=>Rt (Ru prog w) A (U8 t0 it v) (fun _ s₀=>Rt (Ru prog w) A (Xz t0 env v) (fun _ s₂=>Rt (Ru prog w) A (UG i1 env) (fun x s₃=>Rt (Ru prog w) A (Y6 x) (fun it1 s₄ =>
     T5 (Ru prog w) A (.compStart (.ListComp elt [⟨t0,i0,[],0⟩,⟨t1,i1,[],0⟩] scope pos) 1 it1 acc env) (fun r s'=>match r with | .ok _=>∃ m,m < n/\I m s' | .error _=>False) s₄) noX s₃) noX s₂) noX s₀) noX s₁) noX s)
  (n:Nat) (h:I n s):T5 (Ru prog w) A (.compLoop (.ListComp elt [⟨t0,i0,[],0⟩,⟨t1,i1,[],0⟩] scope pos) 0 it acc env) R s:=by
 refine Zk rfl I (fun n s hI=>?_) n h
 refine (show Rt (Ru prog w) A ((Zj (.ListComp elt [⟨t0,i0,[],0⟩,⟨t1,i1,[],0⟩] scope pos) 0 it acc env).onRaise (fun x=>do U4 x env; Yj x)) _ _ s from ZS ?_)
 rw[wJ]
 refine Q9 (UW (Q9 (Su (turn n s hI) (fun r s₁ h₁=>?_) gW)))
 cases r with
 | none=>exact Rj h₁
 | some v =>
  refine Q9 (Su h₁ (fun _ s₀ h₀=>Q9 (Su h₀ (fun _ s₂ h₂=>Q9 (Su h₂ (fun x s₃ h₃=>Q9 (UW (Q9 (ZR (hs1 x) (Q9 (Ug (Su h₃ (fun it1 s₄ h₄=>?_) gW))))))) gW)) gW)) gW)
  refine Q9 (wpAny_runOwn (Vl h₄ fun r s' hr=>?_))
  cases r with
  | ok f=>exact Rj ⟨rfl,hr⟩
  | error e=>exact hr.elim
theorem wB (I:Nat->Ra->Prop)
  (turn:∀ n s,I n s->Rt (Ru prog w) A (Xh it) (fun r s₁=>match r with
   | none=>R (.ok .next) s₁
   | some v=>Rt (Ru prog w) A (U8 t1 it v) (fun _ s₀=>Rt (Ru prog w) A (Xz t1 env v) (fun _ s₂=>Rt (Ru prog w) A (UG elt env) (fun x s₄=>Rt (Ru prog w) A (call (.builtin "list.append") [acc,x]) (fun _ s₅=>∃ m,m < n/\I m s₅) noX s₄) noX s₂) noX s₀) noX s₁) noX s)
  (n:Nat) (h:I n s):T5 (Ru prog w) A (.compLoop (.ListComp elt [⟨t0,i0,[],0⟩,⟨t1,i1,[],0⟩] scope pos) 1 it acc env) R s:=by
 refine Zk rfl I (fun n s hI=>?_) n h
 refine (show Rt (Ru prog w) A ((Zj (.ListComp elt [⟨t0,i0,[],0⟩,⟨t1,i1,[],0⟩] scope pos) 1 it acc env).onRaise (fun x=>do U4 x env; Yj x)) _ _ s from ZS ?_)
 rw[wK]
 refine Q9 (UW (Q9 (Su (turn n s hI) (fun r s₁ h₁=>?_) gW)))
 cases r with
 | none=>exact Rj h₁
 | some v =>
  refine Q9 (Su h₁ (fun _ s₀ h₀=>Q9 (Su h₀ (fun _ s₂ h₂=>Q9 (Q9 (Su h₂ (fun x s₄ h₄=>Q9 (Su h₄ (fun _ s₅ h₅=>Rj (Rj ⟨rfl,h₅⟩)) gW)) gW))) gW)) gW)
end
def oW (D:Addr) (σ0:St) (J:It) (g:TG) (wi1:TI) (g1:TG) (te:TE) (H1:Hp) (Q:Hp->Prop):Prop :=
 ∃ W:Nat->Nat->List V->St->Hp->Prop,(∃ m,W 0 m [] σ0 (upd H1 D (.lst []))) ∧
  ∀ i m ys σ' H',W i m ys σ' H'->((J.stop i H'/\Q H')∨(J.go i H'/\∃ N:List V->St->Hp->Prop,(∀ zs σ2 H2,N zs σ2 H2->∃ m',m' < m/\W (i+1) m' zs σ2 H2) ∧
   ∀ x H2,J.yld i H' x H2->g x σ' H2 fun σ3 H3=>wi1 σ3 H3 fun J1 H4 =>
    ∃ Y:Nat->Nat->List V->St->Hp->Prop,(∃ m,Y 0 m ys σ3 H4) ∧
     ∀ j m zs σ5 H5,Y j m zs σ5 H5->((J1.stop j H5/\N zs σ5 H5)∨(J1.go j H5/\∃ M:List V->St->Hp->Prop,(∀ zs σ6 H6,M zs σ6 H6->∃ m',m' < m/\Y (j+1) m' zs σ6 H6) ∧
      ∀ y H6,J1.yld j H5 y H6->g1 y σ5 H6 fun σ7 H7=>te σ7 H7 fun v H8=>H8 D=some (.lst zs)/\zs.length < sizeLine/\M (zs++[v]) σ7 (upd H8 D (.lst (zs++[v])))))))
def Lr (n:Nat) (cap:List Nat) (wi:TI) (g:TG) (wi1:TI) (g1:TG) (te:TE):TE:=fun σ H Q=>wi σ H fun J H1=>∀ D,H1 D=none->oW D (Fg n cap σ) J g wi1 g1 te H1 fun H2=>Q (.ref D) H2
section
variable {X:Cx} {elt t0 i0 t1 i1:Expr} {scope:Va} {pos:Wi} {L F:List Str} {cap:List Nat} {wi wi1:TI} {g g1:TG} {te:TE}
theorem Bh {cl:List (Str × Addr)} {pins:List (Addr × U3)} {σ:St} {s2:Ra} {H2:Hp} {it:Addr} {fp:List Addr} {tn:Nat->Tf->Prop} {J:It} {use:Option (Value->Sem Unit)} {QQ:Value->Ra->Prop} {Z:Hp->Prop} {E:Value->Ra->Prop}
  (hc:X.calm=true) (ok:jP X scope F cap)
  (sub:∀ n c,cl.lookup n=some c->X.env.cells.lookup n=some c) (all:∀ y∈scope.names,y.2 = .free->∃ c,cl.lookup y.1=some c)
  (hg:∀ cl C s H fp,PG (aZ X scope cl C (L++F) s H fp) t0 g) (hi1:∀ cl C s H fp,PI (aZ X scope cl C (L++F) s H fp) t1 i1 wi1) (hg1:∀ cl C s H fp,PG (aZ X scope cl C (L++F) s H fp) t1 g1) (he:∀ cl C s H fp,PE (aZ X scope cl C (L++F) s H fp) elt te)
  (hs1:∀ (env:WQ) x,Uu i1 env x=pure x)
  (I2:Inv X pins σ H2 s2) (T:Turn X.prog X.w X.K t0 J fp it tn) (st2:tn 0 s2.heap) (f2:∀ b∈fp,sU X pins H2 b)
  (q2:oW s2.heap.objs.size (Fg L.length cap σ) J g wi1 g1 te H2 Z)
  (fin:∀ (C:Addr) (s':Ra) (H':Hp),Z H'->Inv X pins σ H' s'->(∃ m,s'.heap.Ns C m)->H' C=none->C≠X.env.locals->X.s₀.heap.objs.size<=C->(∀ x c,X.env.cells.lookup x=some c->c≠C)->(∀ p∈X.pn++pins,p.1≠C) →
   Wk (Ru X.prog X.w) X.A E use QQ (.ref s2.heap.objs.size) C (.ok .next) s') :
  Rt (Ru X.prog X.w) X.A (newList []) (fun acc s₃=>Rt (Ru X.prog X.w) X.A (newFunctionEnv scope X.env.globals cl [] X.env.qual none .none (some X.env)) (fun cenv s₄ =>
   T5 (Ru X.prog X.w) X.A (.compStart (.ListComp elt [⟨t0,i0,[],0⟩,⟨t1,i1,[],0⟩] scope pos) 0 (.ref it) acc { cenv with scope:=relabel scope X.env }) (Wk (Ru X.prog X.w) X.A E use QQ acc cenv.locals) s₄) E s₃) E s2:=by
 have hD:H2 s2.heap.objs.size=none:=I2.fresh
 refine SN (Xa ok.cell (by intro y hy; simp at hy) (fun h₁ hns₁ hsb₁=>?_) ok.kind)
 dsimp only at hns₁ hsb₁ ⊢
 have I3:Inv X pins σ (upd H2 s2.heap.objs.size (.lst [])) { s2 with heap:=s2.heap.push { cls:=.type "list",data:=.seq ([]:List Value).toArray } }:=I2.M8 (t':=s2.toks) (ys:=[]) (its:=[]) .nil (Sd _)
 have blt:∀ b∈fp,b < s2.heap.objs.size:=fun b hb=>let ⟨_,e,_⟩:=T.obj 0 _ st2 b hb; Ro e
 have szC:(s2.heap.push { cls:=.type "list",data:=.seq ([]:List Value).toArray }).objs.size=s2.heap.objs.size+1:=Uy _ _
 generalize hs3:({ s2 with heap:=s2.heap.push { cls:=.type "list",data:=.seq ([]:List Value).toArray } }:Ra)=s3 at I3
 have es3:s3.heap=s2.heap.push { cls:=.type "list",data:=.seq ([]:List Value).toArray }:=by rw[← hs3]
 have eos:s3.os=s2.os:=by rw[← hs3]
 have fok:∀ b∈fp,sU X pins (upd H2 s2.heap.objs.size (.lst [])) b/\b < s3.heap.objs.size:=fun b hb=>by
  obtain⟨f0,fr⟩:=f2 b hb
  refine⟨⟨by rw[aR (RX (blt b hb))]; exact f0,fr⟩,?_⟩
  rw[es3,szC]
  exact U5 (blt b hb)
 have hkp:∀ b o,s3.heap.get? b=some o->h₁.get? b=some o:=fun b o e=>by
  have e':b < s3.heap.objs.size:=Ro e
  rw[es3] at e e'
  exact (hsb₁.2 b (RX e')).trans (Rb _ e)
 have hns:h₁.Ns s3.heap.objs.size fun _=>none:=by
  rw[es3]
  exact hns₁
 have I4:∀ tk,Inv (aZ X scope cl s3.heap.objs.size (L++F) s3 (upd H2 s2.heap.objs.size (.lst [])) fp) [] (Fg L.length cap σ) (upd H2 s2.heap.objs.size (.lst [])) { s3 with heap:=h₁,toks:=tk }:=fun tk =>
  mQ (L:=L) ok I3 fok sub all hns hkp
 have stat:∀ {H':Hp},(∀ b∈fp,H' b=none)->∀ b∈fp,sU (aZ X scope cl s3.heap.objs.size (L++F) s3 (upd H2 s2.heap.objs.size (.lst [])) fp) [] H' b:=fun {H'} hn b hb=>by
  obtain⟨⟨_,g1,g2,g3,g4,g5⟩,g6⟩:=fok b hb
  exact⟨hn b hb,RX g6,tu I3 g1 g2,.inl hb,fun x c e=>g4 x c (sub x c e),fun p hp=>absurd (show p∈([]:List (Addr × U3)) from hp) (by simp)⟩
 have loop:∀ tk,T5 (Ru X.prog X.w) X.A (.compLoop (.ListComp elt [⟨t0,i0,[],0⟩,⟨t1,i1,[],0⟩] scope pos) 0 (.ref it) (.ref s2.heap.objs.size) (Xm scope cl s3.heap.objs.size X.env))
   (Wk (Ru X.prog X.w) X.A E use QQ (.ref s2.heap.objs.size) s3.heap.objs.size) { s3 with heap:=h₁,toks:=tk }:=fun tk=>by
  obtain⟨W,⟨m0,w0⟩,turn⟩:=q2
  have st3:tn 0 h₁:=T.keep 0 _ _ st2 fun b hb o e=>hkp b o (by rw[es3]; exact Rb _ e)
  refine vq (hs1 _) (fun n s'=>∃ i ys σ' H',Inv (aZ X scope cl s3.heap.objs.size (L++F) s3 (upd H2 s2.heap.objs.size (.lst [])) fp) [] σ' H' s'/\tn i s'.heap/\(∀ b∈fp,H' b=none)/\W i n ys σ' H') ?_ m0
   ⟨0,[],_,_,I4 tk,st3,fun b hb=>(fok b hb).1.1,w0⟩
  rintro n s5 ⟨i,ys,σ5,H5,I5,st5,fr5,w5⟩
  rcases turn i n ys σ5 H5 w5 with⟨stop,qz⟩ | ⟨go,N,hN,step⟩
  ·refine thn (T.done (aZ X scope cl s3.heap.objs.size (L++F) s3 (upd H2 s2.heap.objs.size (.lst [])) fp) rfl rfl rfl hc i [] s5 σ5 H5 _ I5 (stat fr5) st5 stop) fun r s6 ⟨hr,I6⟩=>?_
   subst hr
   have un:Un (frs X.stack) fp H2 H5 s2.heap s6.heap:=by
    have u1:Un (frs X.stack) fp H2 (upd H2 s2.heap.objs.size (.lst [])) s2.heap s3.heap:=by
     rw[es3]
     exact Un.laid (fun _ _ q=>Rb _ q) (Rh _) hD
    exact u1.trans I6.base
   have J1:Inv X pins σ H5 s6:=I2.call' (I6.os.trans eos) un I6.hok I6.bare fun b hb=>by
    obtain⟨_,g1,_,g3,g4,g5⟩:=f2 b hb
    exact⟨g3,g1,g4,g5⟩
   have hC:s2.heap.objs.size<=s3.heap.objs.size:=by rw[es3,szC]; exact Ud _
   obtain⟨m,hm,_⟩:=I6.loc
   refine fin s3.heap.objs.size s6 H5 qz J1 ⟨m,hm⟩ I6.free (Vx (Rm I2.lt hC)) (RP I2.sz hC) (fun x c e z=>?_) (fun p hp z=>?_)
   ·obtain⟨v,q⟩:=I2.cell x c e
    exact absurd (Rm q.lt (by rw[z]; exact hC)) (Sx _)
   ·exact absurd (Rm (Ro (I2.pin p hp).1) (by rw[z]; exact hC)) (Sx _)
  ·refine thn (T.item (aZ X scope cl s3.heap.objs.size (L++F) s3 (upd H2 s2.heap.objs.size (.lst [])) fp) rfl rfl rfl hc i [] s5 σ5 H5 _ I5 (stat fr5) st5 go) fun r s6 ⟨u,hr,h6⟩=>?_
   subst hr
   refine thn h6 fun _ s7 ⟨x,H7,I7,r7,y7,st7,fr7⟩=>?_
   have I7':=I7.pinned (stat fr7) (T.obj _ _ st7)
   refine thn (hg _ _ _ _ _ _ s7 σ5 H7 x u _ I7' r7 (step x H7 y7)) fun _ s8 ⟨σ8,H8,I8,q8⟩=>?_
   have XJ:∀ {σ9:St} {H9:Hp} {s9:Ra} {zs:List V},Inv (aZ X scope cl s3.heap.objs.size (L++F) s3 (upd H2 s2.heap.objs.size (.lst [])) fp) ([]++lK fp s7.heap) σ9 H9 s9->N zs σ9 H9 →
     ∃ m,m < n/\∃ i ys σ' H',Inv (aZ X scope cl s3.heap.objs.size (L++F) s3 (upd H2 s2.heap.objs.size (.lst [])) fp) [] σ' H' s9/\tn i s9.heap/\(∀ b∈fp,H' b=none)/\W i m ys σ' H':=fun {σ9 H9 s9 zs} I9 n9=>by
    obtain⟨m',hm,w9⟩:=hN zs σ9 H9 n9
    refine⟨m',hm,i+1,zs,σ9,H9,I9.iK,T.keep _ _ _ st7 fun b hb o e=>(I9.pin (b,o) (RC _ (RC _ (cN hb e)))).1,fun b hb=>?_,w9⟩
    obtain⟨o,e,d⟩:=T.obj _ _ st7 b hb
    exact (I9.pin (b,o) (RC _ (RC _ (cN hb e)))).2.1
   refine thn (hi1 _ _ _ _ _ _ s8 σ8 H8 _ I8 q8) fun v1 s9 h9=>thn h9 fun itv s10 h10=>?_
   obtain⟨it1,fp1,tn1,J1,H10,e,I10,T1,st10,f10,Y,⟨m1,y0⟩,turn1⟩:=h10
   subst e
   have stat1:∀ {H':Hp},(∀ b∈fp1,H' b=none)->∀ b∈fp1,sU (aZ X scope cl s3.heap.objs.size (L++F) s3 (upd H2 s2.heap.objs.size (.lst [])) fp) ([]++lK fp s7.heap) H' b:=fun hn b hb=>⟨hn b hb,(f10 b hb).2⟩
   have loop1:T5 (Ru X.prog X.w) X.A (.compLoop (.ListComp elt [⟨t0,i0,[],0⟩,⟨t1,i1,[],0⟩] scope pos) 1 (.ref it1) (.ref s2.heap.objs.size) (Xm scope cl s3.heap.objs.size X.env))
     (fun r s'=>match r with | .ok _=>∃ m,m < n/\∃ i ys σ' H',Inv (aZ X scope cl s3.heap.objs.size (L++F) s3 (upd H2 s2.heap.objs.size (.lst [])) fp) [] σ' H' s'/\tn i s'.heap/\(∀ b∈fp,H' b=none)/\W i m ys σ' H' | .error _=>False) s10:=by
    refine wB (fun k s'=>∃ j zs σ' H',Inv (aZ X scope cl s3.heap.objs.size (L++F) s3 (upd H2 s2.heap.objs.size (.lst [])) fp) ([]++lK fp s7.heap) σ' H' s'/\tn1 j s'.heap/\(∀ b∈fp1,H' b=none)/\Y j k zs σ' H') ?_ m1
     ⟨0,ys,_,_,I10,st10,fun b hb=>(f10 b hb).1,y0⟩
    rintro k s11 ⟨j,zs,σ11,H11,I11,st11,fr11,w11⟩
    rcases turn1 j k zs σ11 H11 w11 with⟨stop1,n1⟩ | ⟨go1,M,hM,step1⟩
    ·refine thn (T1.done (aZ X scope cl s3.heap.objs.size (L++F) s3 (upd H2 s2.heap.objs.size (.lst [])) fp) rfl rfl rfl hc j _ s11 σ11 H11 _ I11 (stat1 fr11) st11 stop1) fun r s12 ⟨hr,I12⟩=>?_
     subst hr
     exact XJ I12 n1
    ·refine thn (T1.item (aZ X scope cl s3.heap.objs.size (L++F) s3 (upd H2 s2.heap.objs.size (.lst [])) fp) rfl rfl rfl hc j _ s11 σ11 H11 _ I11 (stat1 fr11) st11 go1) fun r s12 ⟨u1,hr,h12⟩=>?_
     subst hr
     refine thn h12 fun _ s13 ⟨x1,H13,I13,r13,y13,st13,fr13⟩=>?_
     have I13':=I13.pinned (stat1 fr13) (T1.obj _ _ st13)
     refine thn (hg1 _ _ _ _ _ _ s13 σ11 H13 x1 u1 _ I13' r13 (step1 x1 H13 y13)) fun _ s14 ⟨σ14,H14,I14,q14⟩=>?_
     refine thn (he _ _ _ _ _ _ s14 σ14 H14 _ I14 q14) fun y s15 ⟨yv,H15,I15,r15,e15,z15,n15⟩=>?_
     refine thn (dw _ s15 σ14 H15 (.ref s2.heap.objs.size) [yv] (.ref s2.heap.objs.size) [y] (fun _ H'=>M (zs++[yv]) σ14 H') I15 rfl (.cons r15 .nil) ⟨_,zs,yv,rfl,rfl,e15,z15,n15⟩) fun _ s16 ⟨_,H16,I16,_,n16⟩=>?_
     obtain⟨m',hm,w16⟩:=hM _ _ _ n16
     refine⟨m',hm,j+1,_,σ14,H16,I16.iK,T1.keep _ _ _ st13 fun b hb o e=>(I16.pin (b,o) (RC _ (RC _ (cN hb e)))).1,fun b hb=>?_,w16⟩
     obtain⟨o,e,d⟩:=T1.obj _ _ st13 b hb
     exact (I16.pin (b,o) (RC _ (RC _ (cN hb e)))).2.1
   exact wA loop1 (T1.self _ 0 _ _ _ st10 loop1)
 have eC:(s2.heap.push { cls:=.type "list",data:=.seq ([]:List Value).toArray }).objs.size=s3.heap.objs.size:=by rw[es3]
 have goal:∀ tk,T5 (Ru X.prog X.w) X.A (.compStart (.ListComp elt [⟨t0,i0,[],0⟩,⟨t1,i1,[],0⟩] scope pos) 0 (.ref it) (.ref s2.heap.objs.size) (Xm scope cl s3.heap.objs.size X.env))
   (Wk (Ru X.prog X.w) X.A E use QQ (.ref s2.heap.objs.size) s3.heap.objs.size) { s3 with heap:=h₁,toks:=tk }:=fun tk =>
  XX (loop tk) (T.self _ 0 _ _ _ (T.keep 0 _ _ st2 fun b hb o e=>hkp b o (by rw[es3]; exact Rb _ e)) (loop tk))
 have g0:=goal (s2.toks+([]:List (Str × Value)).length)
 subst hs3
 exact g0
theorem Fv (hc:X.calm=true) (ok:jP X scope F cap) (hi:PI X t0 i0 wi)
  (hg:∀ cl C s H fp,PG (aZ X scope cl C (L++F) s H fp) t0 g) (hi1:∀ cl C s H fp,PI (aZ X scope cl C (L++F) s H fp) t1 i1 wi1) (hg1:∀ cl C s H fp,PG (aZ X scope cl C (L++F) s H fp) t1 g1) (he:∀ cl C s H fp,PE (aZ X scope cl C (L++F) s H fp) elt te)
  (hs:∀ x,Uu i0 X.env x=pure x:=by intro _; rfl) (hs1:∀ (env:WQ) x,Uu i1 env x=pure x:=by intro _ _; rfl):PE X (.ListComp elt [⟨t0,i0,[],0⟩,⟨t1,i1,[],0⟩] scope pos) (Lr L.length cap wi g wi1 g1 te):=by
 intro pins s σ H Q I h
 obtain⟨cl,e1,e2,e3⟩:=qN (scope:=scope) (env:=X.env) (fun y hy hf=>I.ok.has _ (ok.fr y hy hf))
 rw[eval_ListComp]
 refine Wj (use:=none) rfl hs e1 ok.kind ok.nms (thn (hi pins s σ H _ I h) fun v s1 h1=>thn h1 fun itv s2 h2=>?_)
 obtain⟨it,fp,tn,J,H2,e,I2,T,st2,f2,q2⟩:=h2
 subst e
 refine Bh (Z:=fun H'=>Q (.ref s2.heap.objs.size) H') hc ok e2 e3 hg hi1 hg1 he hs1 I2 T st2 f2 (q2 _ I2.fresh) fun C s' H' z J m hCf hCl hCs hCc hCp=>?_
 obtain⟨m,hm⟩:=m
 exact⟨m,hm,fun h' hs'=>⟨.ref _,H',J.turned (t':=s'.toks) (fun b o hb e=>(hs'.2 b hb).trans e) hCf hCl (.inr hCs) hCc hCp,rfl,z⟩⟩
end
end L2
namespace L2
open PySem PySem.Spec PyProof.Rows
section
variable {X:Cx}
end
end L2
namespace L2
open PySem PySem.Spec PyProof.Rows
def In2 (D:Addr) (J1:It) (g1:TG) (te:TE) (N:List V->St->Hp->Prop) (ys:List V) (σ3:St) (H4:Hp):Prop :=
 ∃ Y:Nat->Nat->List V->St->Hp->Prop,(∃ m,Y 0 m ys σ3 H4) ∧
  ∀ j m zs σ5 H5,Y j m zs σ5 H5->((J1.stop j H5/\N zs σ5 H5)∨(J1.go j H5/\∃ M:List V->St->Hp->Prop,(∀ zs σ6 H6,M zs σ6 H6->∃ m',m' < m/\Y (j+1) m' zs σ6 H6) ∧
   ∀ y H6,J1.yld j H5 y H6->g1 y σ5 H6 fun σ7 H7=>te σ7 H7 fun v H8=>H8 D=some (.lst zs)/\zs.length < sizeLine/\M (zs++[v]) σ7 (upd H8 D (.lst (zs++[v])))))
theorem Ci {K:R7} {a D:Addr} {xs:List V} {g:TG} {wi1:TI} {g1:TG} {te:TE} {H1:Hp} {Q:Hp->Prop} {σ0:St} (Pv:Nat->List V->St->Hp->Prop) (h0:Pv 0 [] σ0 (upd H1 D (.lst [])))
  (hl:∀ i ys σ H,i<=xs.length->Pv i ys σ H->SqT K H a xs)
  (hs:∀ i ys x σ H,xs[i]? = some x->Pv i ys σ H->g x σ H fun σ3 H3=>wi1 σ3 H3 fun J1 H4=>In2 D J1 g1 te (Pv (i+1)) ys σ3 H4)
  (hd:∀ ys σ H,Pv xs.length ys σ H->Q H):oW D σ0 (Itt K a) g wi1 g1 te H1 Q:=by
 refine⟨fun i m ys σ H=>m=xs.length - i/\i<=xs.length/\Pv i ys σ H,⟨xs.length,by simp,Sd _,h0⟩,?_⟩
 rintro i m ys σ H ⟨rfl,hi,p⟩
 have q:=hl i ys σ H hi p
 by_cases hlt:i < xs.length
 ·refine .inr ⟨⟨xs,xs[i],q,by simp [hlt]⟩,Pv (i+1),fun zs σ' H' p'=>⟨xs.length - (i+1),by lia,rfl,hlt,p'⟩,fun x H' y=>?_⟩
  obtain⟨e,y⟩:=y
  subst e
  exact hs i ys x σ _ (y xs q) p
 ·have e:i=xs.length:=by lia
  subst e
  exact .inl ⟨⟨xs,q,Rh _⟩,hd ys σ H p⟩
theorem Gk {K:R7} {b D:Addr} {ws:List V} {g1:TG} {te:TE} {N:List V->St->Hp->Prop} {ys:List V} {σ3:St} {H4:Hp} (Pw:Nat->List V->St->Hp->Prop) (h0:Pw 0 ys σ3 H4)
  (hl:∀ j zs σ H,j<=ws.length->Pw j zs σ H->SqL K H b ws)
  (hs:∀ j zs y σ H,ws[j]? = some y->Pw j zs σ H->g1 y σ H fun σ7 H7=>te σ7 H7 fun v H8=>H8 D=some (.lst zs)/\zs.length < sizeLine/\Pw (j+1) (zs++[v]) σ7 (upd H8 D (.lst (zs++[v]))))
  (hd:∀ zs σ H,Pw ws.length zs σ H->N zs σ H):In2 D (Itl K b) g1 te N ys σ3 H4:=by
 refine⟨fun j m zs σ H=>m=ws.length - j/\j<=ws.length/\Pw j zs σ H,⟨ws.length,by simp,Sd _,h0⟩,?_⟩
 rintro j m zs σ H ⟨rfl,hj,p⟩
 have q:=hl j zs σ H hj p
 by_cases hlt:j < ws.length
 ·refine .inr ⟨⟨ws,ws[j],q,by simp [hlt]⟩,Pw (j+1),fun zs' σ' H' p'=>⟨ws.length - (j+1),by lia,rfl,hlt,p'⟩,fun y H' z=>?_⟩
  obtain⟨e,z⟩:=z
  subst e
  exact hs j zs y σ _ (z ws q) p
 ·have e:j=ws.length:=by lia
  subst e
  exact .inl ⟨⟨ws,q,Rh _⟩,hd zs σ H p⟩
end L2
namespace L2
open PySem PySem.Spec PyProof.Rows
section
variable {prog:RV} {w:Sv} {A:Sh} {E:Value->Ra->Prop} {s:Ra}
end
section
variable {X:Cx}
def K7 (K:R7):R2:=fun x y H Q=>∃ (a b:Addr) (ns ms:List Int),x = .ref a/\y = .ref b/\SqL K H a (ns.map V.int)/\SqL K H b (ms.map V.int)/\Q (.bl (decide (ns=ms))) H
theorem JT (hu:X.A.units < cLine):OpR X (T6 .Eq) (K7 X.K):=by
 intro pins s σ H x y v u Q I rx ry h
 obtain⟨a,b,ns,ms,rfl,rfl,ha,hb,q⟩:=h
 cases rx
 cases ry
 obtain⟨its,r1,p1,_⟩:=I.list ha
 obtain⟨its2,r2,p2,_⟩:=I.list hb
 have i1:Ue its ns:=intsAre_of r1
 have i2:Ue its2 ms:=intsAre_of r2
 have s1:its.toArray.size=ns.length:=by rw[Ry]; exact i1.length
 have s2:its2.toArray.size=ms.length:=by rw[Ry]; exact i2.length
 have e:=qC ns ms
 by_cases hl:ns.length=ms.length
 ·have r:=SeqAt.RcAt.lists (e:=fun j=>ns.getD j 0 == ms.getD j 0) p1.isList p2.isList (by rw[s1,s2]; exact hl) hu fun j h1 h2=>by
   obtain⟨t,e1⟩:=ints_get i1 (j:=j) (by simpa using h1)
   obtain⟨t',e2⟩:=ints_get i2 (j:=j) (by simpa using h2)
   rw[TQ,TQ,e1,e2]
   exact Xn _ _ _ _
  rw[← hl,Nat.min_self,beq_self_eq_true,Bool.and_true] at e
  rw[s1,e] at r
  exact r X.prog X.w X.xe _ ⟨.bl _,H,I,rfl,q⟩
 ·have r:=SeqAt.RcAt.lists_lengths p1.isList p2.isList (by rw[s1,s2]; simpa using hl) hu
  rw[decide_eq_false (fun z=>hl (by rw[z]))] at q
  exact r X.prog X.w X.xe _ ⟨.bl false,H,I,rfl,q⟩
end
end L2
namespace L2
open PySem PySem.Spec PyProof.Rows
section
variable {X:Cx} {CX:CXT} {k:Nat} {f C:Addr} {fd:Tp} {ps:List Str} {sp:Sp} {dvs:List V} {ds:List Value} {E:XK} {c m:Str} {p pos apos:Wi} {e:Expr} {es:List Expr} {t:TA} {mc:Value}
structure Kr (K:RD) (C:Addr) (mc:Value) (m:Str) (f:Addr):Prop where
 ga:PySem.W.specialIn K (.ref C) "__getattribute__" = some (some (.builtin "type.__getattribute__"))
 rd:PySem.W.readsIn K C mc=true
 fd:PySem.W.findCls K (.ref C) mc m=some (.val (.ref f))
 kp:Ve K (.ref f)=true
 hd:PySem.W.handedIn (.ref f)=true
theorem zQ {pl:Sem Bool} (hg:Gl X c) (hm:X.mg c=some (.ref C)) (O:Kr X.K C mc m f) (F:dB X.prog X.w X.K X.mg X.base CX k f fd ps sp) (hr:gB k X.A) (hb:Binds X.K fd ps ds) (hd:Vals dvs ds) (hx:Passes CX X E) (ha:PA X (e::es) t)
  (hdb:(c == ("__debug__" : Str))=false:=by decide) (hst:R9 (e::es) X.env=(false,UG e X.env)::R9 es X.env:=by rfl) (hpl:(We pos (R9 es X.env)).any (·.1)=false:=by rfl)
  (ht:UG (.Call (.Attribute (.Name c p) m apos) (e::es) [] pos) X.env=(do
   let ov ← UG (.Name c p) X.env
   Xu apos.atName
   let (g,first) ← YF [ov] (getMethod ov m pl)
   callWith pos g first (We pos (R9 (e::es) X.env)) (backToKw pos (keywordEach [] X.env))):=by rfl) :
  PE X (.Call (.Attribute (.Name c p) m apos) (e::es) [] pos) (yd sp dvs E t):=by
 intro pins s σ H Q I h
 refine PySem.W.methodCall_KW (pl:=pl) (m7 I hg hm ?_ hdb) ht
 refine PySem.W.method_cls I.kIn O.ga (PySem.W.cls_value I.kIn O.rd O.fd O.hd ?_)
 have I1:=I.tok (s.toks+1)
 refine Wq (first:=[]) (h₀:=X.base) I.ok.mod.kin O.kp (thn (ha pos pins _ σ H _ I1 h) fun us s1 ⟨vs,H1,I2,r,q⟩=>⟨I2.kIn,?_⟩) hst hpl
 exact yp F hr hb hd hx I2 r q
end
end L2
namespace L2
open PySem PySem.Spec PyProof.Rows
section
variable {P:RV} {w:Sv} {A:Sh} {E:Value->Ra->Prop} {hp:Tf} {g:Array Zw} {d:Drawn} {tk:Nat} {os:OsState}
variable {nm q:Str} {C N:Addr} {bs bm:List Value} {hdct:Bool} {sn:List Str} {sub:List Value} {ab:Bool} {col:Option Bool} {dd:Option Addr} {k0 k1 k2 k3 k5:Option Value} {newId:String}
abbrev oM (C t:Addr) (D:Option Addr):U3:={ cls:=.ref C,dict:=D,data:=.fields #[.ref t,.none,.none,.none,.bool false,.none] }
theorem Dh {M:ZW} {x t:Addr} {D:Option Addr} {ys:List Value} {Q:Unit->Ra->Prop} (hC:hp.get? C=some (Vu nm q C N bs bm hdct sn sub ab col dd k0 k1 k2 k3 k5 newId)) (hv:bm.contains (.type "ValueError")=true)
  (hx:hp.get? x=some (oM C t D)) (hq:Q () ⟨hp,g,d,tk,os⟩):Rt M A (WX "ValueError.__init__" ⟨.ref x::ys,[]⟩) Q E ⟨hp,g,d,tk,os⟩:=by
 have hv':(R5 C::bm).contains (.type "ValueError")=true:=by rw[Um,hv,WN]
 have F:=PySem.F.excCall_ValueError
 have hns:=F.noStar
 simp only[WX,F.initSplit,F.initKind,F.initRow]
 repeat (first | (with_reducible refine T9 hx ?_) | (with_reducible refine T9 hC ?_) | (with_reducible refine U9 hC ?_; rw[hv']) | wp_step)
 refine wpAny_onRaise ?_
 rw[show ∀ (a b:String) (n:Nat),Bind.check ⟨.positional,"*","ValueError",.self,[⟨"args",.varPos,false⟩]⟩ a b n (List.map (fun z=>z.fst) ({ pos:=R5 x::ys }:Args).kw)=pure () from fun a b n=>check_star_args _ _ _ _ _ _]
 exact Rj hq
theorem An {x t:Addr} {D:Option Addr} {y:Value} {Q:Value->Ra->Prop} (hC:hp.get? C=some (Vu nm q C N bs bm hdct sn sub ab col dd k0 k1 k2 k3 k5 newId)) (hv:bm.contains (.type "ValueError")=true)
  (hx:hp.get? x=some (oM C t D)) (h:∀ h',(∀ b o,b≠x->hp.get? b=some o->h'.get? b=some o)->h'.get? x=some (oM C hp.objs.size D)->Q .none ⟨h',g,d,tk,os⟩) :
  Rt (Ru P w) A (call (.builtin "ValueError.__init__") [.ref x,y]) Q E ⟨hp,g,d,tk,os⟩:=by
 have F:=PySem.F.excCall_ValueError
 refine WR (Xd F.init.plain F.initEntry (Dh hC hv hx ?_))
 have hx1:=Rb { cls:=.type "tuple",data:=.seq #[y] } hx
 wp_walk
 refine h _ (fun b o hb e=>?_) ?_
 ·rw[R8 _ _ (Tw hb)]
  exact Rb _ e
 ·rw[R4 _ hx1 rfl]
  rfl
end
end L2
namespace L2
open PySem PySem.Spec PyProof.Rows
section
variable {P:RV} {w:Sv} {A:Sh} {hp:Tf} {g:Array Zw} {d:Drawn} {tk:Nat} {os:OsState}
variable {nm q:Str} {C N:Addr} {bs bm:List Value} {hdct:Bool} {sn:List Str} {sub:List Value} {ab:Bool} {col:Option Bool} {dd:Option Addr} {k0 k1 k2 k3 k5:Option Value}
structure MJ (bm:List Value):Prop where
 v:bm.contains (.type "ValueError")=true
 b:bm.contains (.type "BaseException")=true
 a:bm.contains (.type "AttributeError")=false
 n:bm.contains (.type "NameError")=false
theorem new_exc {R:Yw->Ra->Prop} (V:MJ bm) (hC:hp.get? C=some (Vu nm q C N bs bm hdct sn sub ab col dd k0 k1 k2 k3 k5 "ValueError.__new__"))
  (hq:R (.ok (.ret (.ref (hp.objs.size+1)))) ⟨(hp.push { cls:=.type "tuple",data:=.seq #[] }).push (oM C hp.objs.size none),g,d,tk,os⟩) :
  T5 (Ru P w) A (.builtin "ValueError.__new__" ⟨[.ref C],[]⟩) R ⟨hp,g,d,tk,os⟩:=by
 have F:=PySem.F.excBase_ValueError
 have he:=F.ends
 have c1:(R5 C::bm).contains (.type "ValueError")=true:=by rw[Um,V.v,WN]
 have c2:(R5 C::bm).contains (.type "AttributeError")=false:=by rw[Um,V.a]; rfl
 have c3:(R5 C::bm).contains (.type "NameError")=false:=by rw[Um,V.n]; rfl
 refine codeAny_builtinAt F.entry ?_
 unfold Builtin.«BaseException.__new__»
 refine PySem.wpAt_bind ?_
 show PySem.wpAt _ _ _ (stack >>= _) _ _ _
 refine PySem.wpAt_bind (PySem.wpAt_stack fun p below=>PySem.wpAt_of_wpAny ?_)
 wp_walk
 refine PySem.wpAt_of_wpAny ?_
 rw[F.owner]
 repeat (first | with_reducible refine wpAny_madeHere_exc F.canon hC ?_ | with_reducible refine T9 hC ?_ | (with_reducible refine U9 hC ?_; first | rw[c1] | rw[c2] | rw[c3]) | wp_step)
 show R _ _
 rw[Uy]
 exact hq
theorem Ks {M:ZW} {E:Value->Ra->Prop} {Q:Unit->Ra->Prop} (V:MJ bm) (hC:hp.get? C=some (Vu nm q C N bs bm hdct sn sub ab col dd k0 k1 k2 k3 k5 "ValueError.__new__")) (hq:Q () ⟨hp,g,d,tk,os⟩) :
  Rt M A (WX "ValueError.__new__" ⟨[.ref C],[]⟩) Q E ⟨hp,g,d,tk,os⟩:=by
 have F:=PySem.F.excBase_ValueError
 have c1:(R5 C::bm).contains (.type "ValueError")=true:=by rw[Um,V.v,WN]
 have hs:=F.noStar
 simp only[WX,F.newSplit,F.newKind,F.newRow]
 repeat (first | (refine U9 hC ?_; rw[c1]) | refine T9 hC ?_ | refine wpAny_madeBy_exc hC ?_ | refine wpAny_staticBase_exc hC ?_ | simp only[bne_self_eq_false,Bool.false_eq_true,if_false] | wp_step)
 exact hq
theorem Ho {f:Addr} {R:Yw->Ra->Prop} (V:MJ bm) (hC:hp.get? C=some (Vu nm q C N bs bm hdct sn sub ab col dd k0 k1 k2 k3 k5 "ValueError.__new__"))
  (hl:∀ h',(∀ b o,hp.get? b=some o->h'.get? b=some o)->W.Looks (Ru P w) h' (Y5 (.ref C) "__init__") (some (.ref f))) (hb:∀ h' self,(∀ b o,hp.get? b=some o->h'.get? b=some o)->W.Looks (Ru P w) h' (bindSpecial (.ref f) self) (.ref f,[self]))
  (hq:T5 (Ru P w) (A.under (.builtin "type.__call__" ⟨[.ref C],[]⟩)) (.call (.ref f) ⟨[.ref (hp.objs.size+1)],[]⟩) (W.InitBack (hp.objs.size+1) R) ⟨(hp.push { cls:=.type "tuple",data:=.seq #[] }).push (oM C hp.objs.size none),g,d,tk,os⟩) :
  T5 (Ru P w) A (.call (.ref C) ⟨[],[]⟩) R ⟨hp,g,d,tk,os⟩:=by
 have f1:=tc_lookup
 have f2:=tc_bind (.ref C)
 have hT:(⟨hp,g,d,tk,os⟩:Ra).TypeIs (.ref C) "type":=⟨_,hC,rfl⟩
 refine Yk ?_
 show Rt _ _ (callAny (.ref C) _) _ _ _
 repeat (any_goals (first | assumption | with_reducible refine T9 hC ?_ | wp_step))
 refine⟨rfl,?_⟩
 refine codeAny_call_builtin_at (Zf _ (by decide+kernel)) entry_typeCall (wpAny_check_type_call_sub hC ?_)
 repeat (first | with_reducible refine T9 hC ?_ | with_reducible refine wpAny_madeBy_exc hC ?_ | wp_step)
 refine codeAny_call_builtin_code (Zf _ PySem.F.excBase_ValueError.quiet) (Ks V hC ?_)
 refine new_exc V hC ?_
 show Rt _ _ _ _ _ _
 have k1:∀ b o,hp.get? b=some o->((hp.push { cls:=.type "tuple",data:=.seq #[] }).push (oM C hp.objs.size none)).get? b=some o:=fun b o e=>Rb _ (Rb _ e)
 have hC1:=k1 _ _ hC
 have hx:((hp.push { cls:=.type "tuple",data:=.seq #[] }).push (oM C hp.objs.size none)).get? (hp.objs.size+1)=some (oM C hp.objs.size none):=by heap_get
 have cC:(R5 C::bm).contains (.ref C)=true:=by simp
 unfold isInstance
 repeat (first | with_reducible refine T9 hx ?_ | (with_reducible refine U9 hC1 ?_; rw[cC]) | wp_step)
 show Rt _ _ (Y5 (.ref C) _) _ _ _
 refine Vf (hl _ k1) ?_
 refine Ug (Q9 ((hb _ _ k1).here ?_))
 refine Q9 (WR (Vl hq fun r s' z=>?_))
 cases r with
 | error e=>exact z
 | ok fl =>
  cases fl with
  | ret v =>
   obtain⟨ev,z⟩:=z
   subst ev
   exact Rj (Rj z)
  | next=>exact SX z
  | brk=>exact SX z
  | cont=>exact SX z
end
end L2
namespace L2
open PySem PySem.Spec PyProof.Rows
theorem Gh (self:Value):PySem.refuseLoop self "__setattr__" [.type "ValueError",.type "Exception",.type "BaseException",.type "object"]=pure ():=by kernel_rfl
section
variable {P:RV} {w:Sv} {A:Sh} {E:Value->Ra->Prop} {K:R7} {s:Ra}
variable {nm q:Str} {C N x t:Addr} {bs bm:List Value} {hdct:Bool} {sn:List Str} {sub:List Value} {ab:Bool} {col:Option Bool} {dd:Option Addr} {k0 k1 k2 k3 k5:Option Value} {newId:String}
def rE:List Value->Bool
 | []=>false
 | a::r=>match a with
  | .ref _=>rE r
  | _=>a::r == [.type "ValueError",.type "Exception",.type "BaseException",.type "object"]
theorem kY {a:Value} {r:List Value} (h:rE (a::r)=true):(∃ c,a = .ref c/\rE r=true)∨a::r=[.type "ValueError",.type "Exception",.type "BaseException",.type "object"]:=by
 cases a <;> first | exact .inl ⟨_,rfl,h⟩ | exact .inr (eq_of_beq h)
theorem nW (self:Value):∀ {l:List Value},rE l=true->PySem.refuseLoop self "__setattr__" l=pure ()
 | [],h=>by cases h
 | a::r,h=>by
  rcases kY h with⟨c,rfl,h'⟩ | e
  ·rw[refuseLoop_ref]
   exact nW self h'
  ·rw[e]
   exact Gh self
theorem vy:∀ {l:List Value},rE l=true->l.contains (.type "object")=true
 | [],h=>by cases h
 | a::r,h=>by
  rcases kY h with⟨c,rfl,h'⟩ | e
  ·rw[Um,vy h',WN]
  ·rw[e]
   rfl
theorem Ku {name:Str} {v:Value} {cd:ClassData} {Q:Unit->Ra->Prop} (X:K.In s.heap) (hx:s.heap.get? x=some (oM C t none)) (hs:Zn K (.ref C) "__setattr__" = some (some (.builtin "object.__setattr__")))
  (hc:W.clsIn K C=some cd) (hu:rE cd.mro=true) (hdc:cd.hasDict=true) (hf:W.takerIn K C name=some none)
  (h:∀ h',(∀ b o,b≠x->s.heap.get? b=some o->h'.get? b=some o)->h'.get? x=some (oM C t (some s.heap.objs.size))->(∃ o,h'.get? s.heap.objs.size=some o)->h'.Ns1 s.heap.objs.size (fun y=>if y=name then some v else none)->∀ tk,Q () { s with heap:=h',toks:=tk }) :
  Rt (Ru P w) A (setAttr (.ref x) name v) Q E s:=by
 have J:PySem.W.InstAt s.heap x (oM C t none) C none:=⟨hx,rfl,rfl,trivial⟩
 have SF:=PySem.F.store_object
 have ne:cd.mro.isEmpty=false:=by cases q:cd.mro with | nil=>rw[q] at hu; cases hu | cons _ _=>rfl
 refine PySem.W.set_plain X J hs ?_
 have sub:YT (Ru P w) s.heap (isInstance (.ref x) (.type "object")) true:=J.type.andThen (PySem.W.looks_mroIn X (by unfold PySem.W.mroIn; rw[hc,Option.bind_some,if_neg (by rw[ne]; decide),vy hu]))
 refine Xd SF.slot.plain SF.entry (@PySem.W.check_slot (Ru P w) _ _ { s with toks:=s.toks+1 } "object.__setattr__" "object" "__setattr__" (.ref x) [.str name s.toks,v] [] _ SF.kind SF.split sub (SF.args (.ref x) (.str name s.toks) v) ?_)
 obtain⟨attr,ha,hr⟩:=Option.bind_eq_some_iff.mp hf
 have hm:YT (Ru P w) s.heap (mroOf (.ref C)) cd.mro:=(PySem.W.looks_clsIn X hc).andThen .now
 have L3:YT (Ru P w) s.heap (Builtin.ObjectAttr.storeTaker? attr) none:=by
  cases attr with
  | none=>exact .now
  | some a =>
   obtain⟨b,hb,e⟩:=Option.map_eq_some_iff.mp hr
   refine (PySem.W.looks_takesIn X hb).andThen ?_
   cases b
   ·exact .now
   ·cases e
 rw[PySem.W.osa_eq,refuse_eq]
 obtain⟨hp,g,d,tk,os⟩:=s
 refine Q9 (Q9 (Vf (s:=⟨hp,g,d,tk+1,os⟩) J.type (Q9 (Vf (s:=⟨hp,g,d,tk+1,os⟩) hm ?_))))
 rw[nW _ hu]
 refine Rj (Q9 (Vf (s:=⟨hp,g,d,tk+1,os⟩) J.type (Q9 (Vf (s:=⟨hp,g,d,tk+1,os⟩) (Xe X ha) (Q9 (Vf (s:=⟨hp,g,d,tk+1,os⟩) L3 ?_))))))
 dsimp only
 unfold Builtin.ObjectAttr.storeInOwnDict
 refine Q9 (Rj ?_)
 unfold Builtin.ObjectAttr.ownDictForStores instanceDict
 refine Q9 (Q9 (wpAny_loadPart hx (Q9 (Vf (s:=⟨hp,g,d,tk+1,os⟩) (PySem.W.looks_clsIn X hc) ?_))))
 rw[hdc,if_neg (by decide)]
 have hx1:(hp.push { cls:=.type "dict",data:=.dict #[] }).get? x=some (oM C t none):=Rb _ hx
 have hne:x≠hp.objs.size:=RX (Ro hx)
 show Rt _ _ (do let d ← alloc { cls:=.type "dict",data:=.dict #[] }; update x fun o=>{ o with dict:=some d }; dictMade (.ref C) x d) _ _ _
 refine Q9 (wpAny_alloc (Q9 (wpAny_update hx1 ?_)))
 wp_step
 refine Rj ?_
 dsimp only
 generalize eh:(hp.push { cls:=.type "dict",data:=.dict #[] }).update x (fun o=>{ o with dict:=some hp.objs.size })=h2
 have n2:h2.Ns1 hp.objs.size (fun _=>none):=by
  refine Heap.Ns1.at (Heap.Ns1.of_empty (Heap.Ns.new hp (.type "dict"))) fun o e=>?_
  rw[← eh,R8 _ _ hne]
  exact e
 have k2:∀ b o,b≠x->hp.get? b=some o->h2.get? b=some o:=fun b o hb e=>by
  rw[← eh,R8 _ _ (Tw hb)]
  exact Rb _ e
 have x2:h2.get? x=some (oM C t (some hp.objs.size)):=by
  rw[← eh,R4 _ hx1 rfl]
 unfold Builtin.ObjectAttr.storeInDict
 refine Q9 (Rj ?_)
 refine Q9 (wpAny_nsSet1 (s:=⟨h2,g,d,tk+1,os⟩) n2 fun h' hn2 hs2=>?_)
 obtain⟨oD,esD,epD,hoD,hdD,hcD⟩:=hn2.count (PySem.Within.cons name v PySem.Within.nil)
 refine Q9 (wpAny_lookBehind hoD (by rw[hdD]; exact pastItsLine_dict (RP hcD (by show 1<=sizeLine+1; lia))) ?_)
 refine Rj (h _ (fun b o hb e=>?_) ((hs2.2 _ hne).trans x2) ⟨oD,hoD⟩ hn2 _)
 have hbn:b≠hp.objs.size:=RX (Ro e)
 exact (hs2.2 _ hbn).trans (k2 b o hb e)
end
end L2
namespace L2
open PySem PySem.Spec PyProof.Rows
theorem Jh (K:R7):W.findCls K (.type "ValueError") (.type "type") "__init__" = some (.val (.builtin "ValueError.__init__")):=by kernel_rfl
theorem Kc:Tj "ValueError" = some (.type "ValueError"):=by decide+kernel
theorem Ka:typeOf (.type "ValueError")=pure (.type "type"):=by kernel_rfl
theorem KC:Manifest.isStub "ValueError" = false:=by decide+kernel
theorem Jc:W.handedIn (.builtin "ValueError.__init__")=true:=by decide+kernel
def xO (x C:Addr) (D:Option Addr):HO:=.ext fun h=>∃ t,h.get? x=some (oM C t D)
theorem JR {P:RV} {w:Sv} {H:Hp} {h:Tf} {x C t:Addr} {D:Option Addr} (e:h.get? x=some (oM C t D)):fV P w H h x (xO x C D) :=
 ⟨⟨t,e⟩,⟨_,e⟩,fun h1 h2 ⟨t',e'⟩ k=>⟨t',k _ e'⟩⟩
structure Fw (K:RD) (C f:Addr) (name:Str):Prop where
 obj:∃ nm q N bs bm hdct sn sub ab col dd k0 k1 k2 k3 k5,K.lookup C=some (Vu nm q C N bs bm hdct sn sub ab col dd k0 k1 k2 k3 k5 "ValueError.__new__")/\MJ bm
 init:VV K (.ref C) "__init__" = some (some (.ref f))
 fn:PySem.W.typeIn K (.ref f)=some (.type "function")
 kp:Ve K (.ref C)=true
 set:VV K (.ref C) "__setattr__" = some (some (.builtin "object.__setattr__"))
 cls:∃ cd,PySem.W.clsIn K C=some cd/\rE cd.mro=true/\cd.hasDict=true
 tak:PySem.W.takerIn K C name=some none
section
variable {X:Cx} {p pos apos:Wi} {e:Expr} {es:List Expr} {t:TA} {f C:Addr}
def NB (K:R7) (t:TA):TE:=fun σ H Q=>t σ H fun vs H1=>∃ (x C f:Addr) (n:Str) (D:Option Addr) (y:V),vs=[.ref x,y]/\H1 x=some (xO x C D)/\Fw K C f n/\Q .non (upd H1 x (xO x C D))
theorem GR {pl:Sem Bool} (hg:Gl X "ValueError") (hm:X.mg "ValueError" = none) (ha:PA X (e::es) t)
  (hst:R9 (e::es) X.env=(false,UG e X.env)::R9 es X.env:=by rfl) (hpl:(We pos (R9 es X.env)).any (·.1)=false:=by rfl)
  (ht:UG (.Call (.Attribute (.Name "ValueError" p) "__init__" apos) (e::es) [] pos) X.env=(do
   let ov ← UG (.Name "ValueError" p) X.env
   Xu apos.atName
   let (g,first) ← YF [ov] (getMethod ov "__init__" pl)
   callWith pos g first (We pos (R9 (e::es) X.env)) (backToKw pos (keywordEach [] X.env))):=by rfl) :
  PE X (.Call (.Attribute (.Name "ValueError" p) "__init__" apos) (e::es) [] pos) (NB X.K t):=by
 intro pins s σ H Q I h
 refine PySem.W.methodCall_KW (pl:=pl) (lW I hg hm Kc ?_) ht
 obtain⟨m,F⟩:=I.fr
 refine PySem.W.method_type F I.ok.mod.kin Ka KC (Jh X.K) Jc ?_
 have I1:=I.tok (s.toks+1)
 refine callWith_builtin1 (thn (ha pos pins _ σ H _ I1 h) fun us s1 ⟨vs,H1,I2,r,x,C,f,n,D,y,ev,hx,XC,q⟩=>?_) hst hpl
 subst ev
 obtain⟨u,v,rfl,ru,rv⟩:=r.two
 obtain rfl:u=R5 x:=ru
 obtain⟨⟨t0,e0⟩,_⟩:=I2.hok x _ hx
 obtain⟨nm,q1,N,bs,bm,hdct,sn,sub,ab,col,dd,k0,k1,k2,k3,k5,lk,V⟩:=XC.obj
 obtain⟨hp,g,d,tk,os⟩:=s1
 refine An (I2.kIn _ _ lk) V.v e0 fun h' k' e'=>?_
 exact⟨.non,_,I2.write (x:=x) (e:=x) (by rw[hx]; trivial) (.inl rfl) k' ⟨_,e'⟩ (JR e'),rfl,q⟩
end
end L2
namespace L2
open PySem PySem.Spec PyProof.Rows
section
variable {X:Cx} {pos pos':Wi} {o value:Expr} {ta tv:TE} {f:Str}
def Pu (K:R7) (ta tv:TE) (f:Str):TS:=fun D σ H=>tv σ H fun y H1=>ta σ H1 fun x H2=>∃ (a C fI:Addr),x = .ref a/\H2 a=some (xO a C none)/\Fw K C fI f/\∀ dx,H2 dx=none->D.nx σ (upd (upd H2 dx (.xd [(f,y)])) a (xO a C (some dx)))
theorem Ja (ha:PE X o ta) (hv:PE X value tv) (hs:ZD value (some (.Attribute o f pos')) pos.line X.env=pure false):PS X (.Assign [.Attribute o f pos'] value pos) (Pu X.K ta tv f):=by
 intro pins s σ H D I h
 refine plainObj_wpAny_Assign_Attribute (thn (hv pins s σ H _ I h) fun u s1 ⟨y,H1,I1,ry,q⟩=>thn (ha pins s1 σ H1 _ I1 q) fun ov s2 ⟨x,H2,I2,rx,a,C,fI,ex,ea,XC,q2⟩=>?_) hs
 subst ex
 obtain rfl:ov=R5 a:=rx
 obtain⟨⟨t0,e0⟩,_⟩:=I2.hok a _ ea
 obtain⟨cd,hc,hu,hd⟩:=XC.cls
 refine Ku I2.kIn e0 XC.set hc hu hd XC.tak fun h' k' e' ho hn tk=>?_
 have fr:=I2.fresh
 have hne:a≠s2.heap.objs.size:=RX (Ro e0)
 have e1:(h'.update a fun _=>oM C t0 none).get? a=some (oM C t0 none):=R4 _ e' rfl
 have o1:∀ b,b≠a->(h'.update a fun _=>oM C t0 none).get? b=h'.get? b:=fun b hb=>R8 _ _ (Tw hb)
 have I3:=I2.laid (a:=s2.heap.objs.size) (o:=.xd [(f,y)]) (h':=h'.update a fun _=>oM C t0 none) (t':=tk) (fun b u' q'=>by
  by_cases hb:b=a
  ·subst hb
   rw[e0] at q'
   rw[e1]
   exact q'
  ·rw[o1 b hb]
   exact k' b u' hb q') (Rh _) ⟨_,hn.at (fun o z=>by rw[o1 _ (Tw hne)]; exact z),fun g=>by
    by_cases hg:g=f
    ·subst hg
     simp [List.lookup,HR]
     exact ry
    ·have:(g == f)=false:=beq_false_of_ne hg
     simp [List.lookup,this,hg,HR]⟩
 have I4:=I3.write (x:=a) (e:=a) (h':=h') (o:=xO a C (some s2.heap.objs.size)) (t':=tk) (by rw[aR hne,ea]; trivial) (.inl rfl) (fun b u' hb q'=>by rw[o1 b hb] at q'; exact q') ⟨_,e'⟩ (JR e')
 exact⟨σ,_,I4,q2 _ fr⟩
end
end L2
namespace L2
open PySem PySem.Spec PyProof.Rows
section
variable {M:ZW} {A:Sh} {E:Value->Ra->Prop} {env:WQ}
theorem Cr {s:Ra} {z:Sem Value} {Q:Flow->Ra->Prop} (hh:A.handled=none)
  (h:Rt M A z (fun v s1=>∃ (e t C:Addr) (D:Option Addr) (nm q:Str) (N:Addr) (bs bm:List Value) (hdct:Bool) (sn:List Str) (sub:List Value) (ab:Bool) (col:Option Bool) (dd:Option Addr) (k0 k1 k2 k3 k5:Option Value) (newId:String),v = .ref e/\s1.heap.get? C=some (Vu nm q C N bs bm hdct sn sub ab col dd k0 k1 k2 k3 k5 newId)/\bm.contains (.type "BaseException")=true/\s1.heap.get? e=some (oM C t D)/\E (.ref e) s1) E s):Rt M A (raiseStmt env (some z) none) Q E s:=by
 unfold raiseStmt
 refine Q9 (Su h (fun v s1 h1=>?_) fun _ _ y=>y)
 obtain⟨e,t,C,D,nm,q,N,bs,bm,hdct,sn,sub,ab,col,dd,k0,k1,k2,k3,k5,newId,rfl,hC,hb,he,hE⟩:=h1
 have c1:(R5 C::bm).contains (.type "BaseException")=true:=by rw[Um,hb,WN]
 obtain⟨hp,g,d,tk,os⟩:=s1
 repeat (first | with_reducible refine T9 he ?_ | with_reducible refine T9 hC ?_ | (with_reducible refine U9 hC ?_; rw[c1]) | wp_step)
 exact wpAny_raiseNew_none hh hE
end
section
variable {X:Cx} {CX:CXT} {k:Nat} {f C:Addr} {fd:Tp} {ps:List Str} {sp:Sp} {c n:Str} {p pos:Wi} {e:Expr} {te:TE} {E:XK}
def Lg (C:Addr) (sp:Sp) (E:XK):TE:=fun _ H Q=>∀ x,H x=none->sp [.ref x] (upd H x (xO x C none)) (fun v H2=>v = .non/\Q (.ref x) H2) E
theorem Ht (XC:Fw X.K C f n) (F:dB X.prog X.w X.K X.mg X.base CX k f fd ps sp) (hr:gB (k+1) X.A) (hg:Gl X c) (hm:X.mg c=some (.ref C)) (hb:Binds X.K fd ps []) (hx:Passes CX X E)
  (hdb:(c == ("__debug__" : Str))=false:=by decide):PE X (.Call (.Name c p) [] [] pos) (Lg C sp E):=by
 intro pins s σ H Q I h
 refine Uk (m7 I hg hm ?_ hdb)
 refine PySem.W.callWith_K0 I.kIn XC.kp ?_
 obtain⟨nm,q1,N,bs,bm,hdct,sn,sub,ab,col,dd,k0,k1,k2,k3,k5,lk,VE⟩:=XC.obj
 have hq:=h (s.heap.objs.size+1) (I.hok.fresh (Ud _))
 have kk:∀ b o,s.heap.get? b=some o->((s.heap.push { cls:=.type "tuple",data:=.seq #[] }).push (oM C s.heap.objs.size none)).get? b=some o:=fun b o z=>Rb _ (Rb _ z)
 have ex:((s.heap.push { cls:=.type "tuple",data:=.seq #[] }).push (oM C s.heap.objs.size none)).get? (s.heap.objs.size+1)=some (oM C s.heap.objs.size none):=by
  have:=RK (s.heap.push { cls:=.type "tuple",data:=.seq #[] }) (o:=oM C s.heap.objs.size none) rfl
  rwa [Uy] at this
 have I2:=I.laid (a:=s.heap.objs.size+1) (o:=xO (s.heap.objs.size+1) C none) (t':=s.toks) kk (Ud _) (JR ex)
 have r2:Vals [V.ref (s.heap.objs.size+1)] [R5 (s.heap.objs.size+1)]:=.cons rfl .nil
 have hl:([R5 (s.heap.objs.size+1)]++[]).length=ps.length:=by
  have z:=r2.length
  rw[F.len _ _ _ _ hq] at z
  exact z.symm
 have hk:=I.kIn
 refine WR ?_
 have mk:=Ho (P:=X.prog) (w:=X.w) (A:=X.A) (hp:=s.heap) (g:=s.gens) (d:=s.drawn) (tk:=s.toks) (os:=s.os) (f:=f) (R:=fun r s'=>match r with | .ok (.ret v)=>EP X pins σ Q v s' | .ok _=>False | .error e=>X.xe e s') VE (hk _ _ lk) (fun h' k'=>Xe (hk.keeps k') XC.init) (fun h' self k'=>PySem.W.bind_fn (hk.keeps k') self XC.fn)
 refine mk (Vl (F.run _ X.stack _ _ ⟨[R5 (s.heap.objs.size+1)],[]⟩ [R5 (s.heap.objs.size+1)] _ _ E (hr.make C [] []) (I2.env0.make C [] []) (hb _ [R5 (s.heap.objs.size+1)] I2.kIn hl) r2 hq) fun r s' hq'=>?_)
 cases r with
 | error e=>exact hx pins σ _ _ e s' I2 hq'
 | ok fl =>
  cases fl with
  | ret u =>
   obtain⟨v,H',I3,rv,ev,q3⟩:=I2.after hq'
   subst ev
   exact⟨rv,⟨V.ref (s.heap.objs.size+1),H',I3,rfl,q3⟩⟩
  | next=>exact SX hq'
  | brk=>exact SX hq'
  | cont=>exact SX hq'
def Throws (X:Cx) (W:Addr->Addr->Addr->Hp->Prop):Prop:=∀ (pins:List (Addr × U3)) (σ:St) (H:Hp) (s:Ra) (x C dx:Addr),Inv X pins σ H s->H x=some (xO x C (some dx))->W x C dx H->X.xe (.ref x) s
def Lh (K:R7) (W:Addr->Addr->Addr->Hp->Prop) (te:TE):TS:=fun _ σ H=>te σ H fun v H1=>∃ (x C f dx:Addr) (n:Str),v = .ref x/\H1 x=some (xO x C (some dx))/\Fw K C f n/\W x C dx H1
theorem FT {W:Addr->Addr->Addr->Hp->Prop} (hc:X.calm=true) (he:PE X e te) (hw:Throws X W):PS X (.Raise (some e) none pos) (Lh X.K W te):=by
 intro pins s σ H D I h
 rw[arm_exec_Raise]
 refine Q9 (UW ?_)
 have go:Rt (Ru X.prog X.w) X.A (UG e X.env) (fun v s1=>∃ x C f dx n H1,v=R5 x/\Inv X pins σ H1 s1/\H1 x=some (xO x C (some dx))/\Fw X.K C f n/\W x C dx H1) X.xe s:=thn (he pins s σ H _ I h) fun u s1 ⟨v,H1,I1,r,x,C,f,dx,n,ev,hx,XC,hW⟩=>by
  subst ev
  exact⟨x,C,f,dx,n,H1,r,I1,hx,XC,hW⟩
 show Rt _ _ (raiseStmt X.env (some (do let v ← UG e X.env; Xu pos; pure v)) none) _ _ _
 refine Cr (I.ok.hd hc) (Q9 (thn go fun v s1 ⟨x,C,f,dx,n,H1,ev,I1,hx,XC,hW⟩=>Q9 (UW (Rj ?_))))
 obtain⟨⟨t0,e0⟩,_⟩:=I1.hok x _ hx
 obtain⟨nm,q1,N,bs,bm,hdct,sn,sub,ab,col,dd,k0,k1,k2,k3,k5,lk,VE⟩:=XC.obj
 exact⟨x,t0,C,some dx,nm,q1,N,bs,bm,hdct,sn,sub,ab,col,dd,k0,k1,k2,k3,k5,_,ev,I1.kIn _ _ lk,VE.b,e0,hw pins σ H1 s1 x C dx I1 hx hW⟩
end
end L2
namespace L2
open PySem PySem.Spec PyProof.Rows
structure Fly (B:Tf) (l:List WQ) (x C dx:Addr) (fl:Value) (h:Tf):Prop where
 stay:B.StaysIn h
 bx:B.get? x=none
 frs:h.FunFrames B l
 tr:∃ vs T oT ts sl,h.get? x=some { cls:=.ref C,dict:=some dx,data:=.fields vs,slots:=sl }/\vs[1]? = some (.ref T)/\B.get? T=none/\T≠x/\h.get? T=some oT/\oT.data = .fields ts/\ts[3]? = some fl
structure Up (h h':Tf):Prop where
 sl:h.UpToSlots h'
 th:∀ b o,h.get? b=some o->∃ o',h'.get? b=some o'
theorem Up.trans {h h1 h2:Tf} (a:Up h h1) (b:Up h1 h2):Up h h2:=⟨a.sl.trans b.sl,fun c o e=>let ⟨o1,e1⟩:=a.th c o e; b.th c o1 e1⟩
section
variable {M:ZW} {A:Sh} {E:Value->Ra->Prop} {s:Ra} {B:Tf} {env:WQ} {outer:List WQ} {L x C dx:Addr} {Q:Unit->Ra->Prop}
theorem qQ {vs:Array Value} {sl:Array (Option Value)} {head:Value} {hadNext:Bool} (hfr:A.frames=some (env::outer)) (hl:s.heap.FunFrames B (env::outer)) (hf:env.frame=some L)
  (ex:s.heap.get? x=some { cls:=.ref C,dict:=some dx,data:=.fields vs,slots:=sl }) (st:B.StaysIn s.heap) (bx:B.get? x=none) (sz:1 < vs.size)
  (h:∀ h',Fly B (env::outer) x C dx (Te L) h'->Up s.heap h'->Q () { s with heap:=h' }) :
  Rt M A (do let a ← frameOf env; let pl ← entryPlaceOf L hadNext; let b ← EntryCells.newEntry head a .none (Te L) .none pl; setField (.ref x) 1 b) Q E s:=by
 have nx:x ∉ (env::outer).filterMap (·.frame):=fun hm=>by
  obtain⟨_,o,ho,nf⟩:=hl.mem hm
  rw[ex] at ho
  cases ho
  exact nf vs rfl
 refine Q9 (wpAny_frameOf_fun hfr hl hf fun h1 s1=>Q9 (wpAny_entryPlaceOf fun pl hpl=>?_))
 unfold EntryCells.newEntry newFields
 refine Q9 (SN ?_ (hpl.sizeOk5 _ _ _ _ _))
 have e1:h1.get? x=_:=(s1.2.1 x nx).trans ex
 have st1:B.StaysIn h1:=fun b o z=>(s1.2.1 b fun hm=>by rw[(hl.mem hm).1] at z; cases z).trans (st b o z)
 generalize eo:({ cls:=.type "traceback",dict:=none,data:=.fields ([head,.ref L,.none,Te L,.none]++(if pl.isEmpty then Rq 6 SQ else pl)).toArray }:U3)=oT
 have dT:oT.data = .fields ([head,.ref L,.none,Te L,.none]++(if pl.isEmpty then Rq 6 SQ else pl)).toArray:=by rw[← eo]
 have e2:=Rb oT e1
 refine Ut e2 rfl sz (h _ ?_ ?_)
 all_goals
  have hTx:h1.objs.size≠x:=Vx (Ro e1)
  have keep:∀ b o,b≠x->h1.get? b=some o->((h1.push oT).update x (Ub (·.setIfInBounds 1 (R5 h1.objs.size)))).get? b=some o:=fun b o hb z=>by
   rw[R8 _ _ (Tw hb)]
   exact Rb _ z
  have nrec:∀ b o,s.heap.get? b=some o->(∀ vs,o.data≠.fields vs)->b≠x:=fun b o z nf q=>by
   rw[q,ex] at z
   cases z
   exact nf vs rfl
 ·refine⟨fun b o z=>keep b o (fun q=>by rw[q,bx] at z; cases z) (st1 b o z),bx,hl.of_keeps fun b o z nf=>?_,?_⟩
  ·obtain⟨sl',hs⟩:=s1.2.2 b o z
   exact⟨_,keep b _ (nrec b o z nf) hs,rfl⟩
  ·have e3:=R4 (Ub (·.setIfInBounds 1 (R5 h1.objs.size))) e2 rfl
   have hT:((h1.push oT).update x (Ub (·.setIfInBounds 1 (R5 h1.objs.size)))).get? h1.objs.size=some oT:=by
    rw[R8 _ _ (Tw hTx)]
    exact RK h1 (by rw[← eo]; rfl)
   refine⟨vs.setIfInBounds 1 (.ref h1.objs.size),h1.objs.size,oT,_,sl,e3,by simp [sz],st1.fresh,hTx,hT,dT,?_⟩
   rcases hpl with rfl | ⟨_,_,_,_,_,_,_,rfl⟩ <;> simp
 ·refine⟨fun b o z nf=>?_,fun b o z=>?_⟩
  ·obtain⟨sl',hs⟩:=s1.2.2 b o z
   exact⟨sl',keep b _ (nrec b o z nf) hs⟩
  ·by_cases hb:b=x
   ·subst hb
    exact⟨_,R4 (Ub (·.setIfInBounds 1 (R5 h1.objs.size))) e2 rfl⟩
   ·obtain⟨sl',hs⟩:=s1.2.2 b o z
    exact⟨_,keep b _ hb hs⟩
theorem lO {fl:Value} {l:List WQ} (F:Fly B l x C dx fl s.heap) (h:∀ h',Fly B l x C dx .none h'->Up s.heap h'->Q () { s with heap:=h' }):Rt M A (ZF (.ref x) none) Q E s:=by
 obtain⟨st,bx,fr,vs,T,oT,ts,sl,ex,v1,bT,hTx,hT,dT,t3⟩:=F
 unfold ZF
 refine Q9 (U0 ex rfl v1 ?_)
 rw[if_pos (show (R5 T != SQ)=true by simp)]
 have s3:3 < ts.size:=(Array.getElem?_eq_some_iff.mp t3).1
 refine Ut hT dT s3 (h _ ?_ ?_)
 all_goals
  have keep:∀ b o,b≠T->s.heap.get? b=some o->(s.heap.update T (Ub (·.setIfInBounds 3 ((none:Option Addr).elim SQ fun f=>Te f)))).get? b=some o:=fun b o hb z=>(R8 _ _ (Tw hb)).trans z
  have nrec:∀ b o,s.heap.get? b=some o->(∀ vs,o.data≠.fields vs)->b≠T:=fun b o z nf q=>by
   rw[q,hT] at z
   cases z
   exact nf ts dT
 ·refine⟨fun b o z=>keep b o (fun q=>by rw[q,bT] at z; cases z) (st b o z),bx,fr.of_keeps fun b o z nf=>⟨o,keep b o (nrec b o z nf) z,rfl⟩,vs,T,_,ts.setIfInBounds 3 .none,sl,keep x _ (Tw hTx) ex,v1,bT,hTx,R4 _ hT (Vh (UT dT _)),UT dT _,by simp [s3]⟩
 ·refine⟨fun b o z nf=>⟨o.slots,keep b o (nrec b o z nf) z⟩,fun b o z=>?_⟩
  by_cases hb:b=T
  ·subst hb
   exact⟨_,R4 _ hT (Vh (UT dT _))⟩
  ·exact⟨o,keep b o hb z⟩
theorem CK {t:Addr} (hfr:A.frames=some (env::outer)) (hl:s.heap.FunFrames B (env::outer)) (hf:env.frame=some L) (ex:s.heap.get? x=some (oM C t (some dx))) (st:B.StaysIn s.heap) (bx:B.get? x=none)
  (h:∀ h',Fly B (env::outer) x C dx .none h'->Up s.heap h'->Q () { s with heap:=h' }):Rt M A (leaving env (.ref x)) Q E s:=by
 unfold leaving U4
 simp only[hf]
 refine Q9 (Q9 (U0 ex rfl (x:=.none) rfl ?_))
 rw[if_neg (by decide)]
 refine qQ hfr hl hf ex st bx (by show 1 < 6; decide) fun h1 F1 u1=>?_
 exact lO (s:={ s with heap:=h1 }) F1 fun h2 F2 u2=>h h2 F2 (u1.trans u2)
theorem tK (hfr:A.frames=some (env::outer)) (hf:env.frame=some L) (F:Fly B (env::outer) x C dx .none s.heap)
  (h:∀ h',Fly B (env::outer) x C dx (Te L) h'->Up s.heap h'->Q () { s with heap:=h' }):Rt M A (U4 (.ref x) env) Q E s:=by
 obtain⟨st,bx,fr,vs,T,oT,ts,sl,ex,v1,bT,hTx,hT,dT,t3⟩:=F
 unfold U4
 simp only[hf]
 refine Q9 (U0 ex rfl v1 ?_)
 rw[if_pos (show (R5 T != SQ)=true by simp)]
 refine Q9 (U0 hT dT t3 ?_)
 rw[if_neg (show ¬ ((SQ == Te L)=true) by simp [Te])]
 refine Q9 (Ut hT dT (Array.getElem?_eq_some_iff.mp t3).1 ?_)
 have keep:∀ b o,b≠T->s.heap.get? b=some o->(s.heap.update T (Ub (·.setIfInBounds 3 SQ))).get? b=some o:=fun b o hb z=>(R8 _ _ (Tw hb)).trans z
 have nrec:∀ b o,s.heap.get? b=some o->(∀ vs,o.data≠.fields vs)->b≠T:=fun b o z nf q=>by
  rw[q,hT] at z
  cases z
  exact nf ts dT
 refine qQ (s:={ s with heap:=s.heap.update T (Ub (·.setIfInBounds 3 SQ)) }) hfr (fr.of_keeps fun b o z nf=>⟨o,keep b o (nrec b o z nf) z,rfl⟩) hf (keep x _ (Tw hTx) ex) (fun b o z=>keep b o (fun q=>by rw[q,bT] at z; cases z) (st b o z)) bx (Array.getElem?_eq_some_iff.mp v1).1 fun h1 F1 u1=>h h1 F1 ?_
 refine Up.trans ⟨fun b o z nf=>⟨o.slots,keep b o (nrec b o z nf) z⟩,fun b o z=>?_⟩ u1
 by_cases hb:b=T
 ·subst hb
  exact⟨_,R4 _ hT (Vh (UT dT _))⟩
 ·exact⟨o,keep b o hb z⟩
theorem zA (hfr:A.frames=some (env::outer)) (hf:env.frame=some L) (F:Fly B (env::outer) x C dx .none s.heap)
  (h:∀ h',Fly B (env::outer) x C dx .none h'->Up s.heap h'->Q () { s with heap:=h' }):Rt M A (leaving env (.ref x)) Q E s:=by
 unfold leaving
 refine Q9 (tK hfr hf F fun h1 F1 u1=>?_)
 exact lO (s:={ s with heap:=h1 }) F1 fun h2 F2 u2=>h h2 F2 (u1.trans u2)
end
end L2
namespace L2
open PySem PySem.Spec PyProof.Rows
structure Lie (P:RV) (w:Sv) (outer:List WQ) (H:Hp) (s:Ra) (x C dx:Addr) (H':Hp) (B:Tf) (s':Ra):Prop where
 os:s'.os=s.os
 bare:Xx s'.gens
 fly:Fly B outer x C dx .none s'.heap
 un:Un (frs outer) [] H H' s.heap s'.heap
 hok:HOk P w H' s'.heap
 kb:∀ b o,s.heap.get? b=some o->H b=none->b ∉ frs outer->B.get? b=some o
 hb:∀ b u,H' b=some u->∃ o,s'.heap.get? b=some o/\B.get? b=some o
 xn:H' x=none
def XL (P:RV) (w:Sv):CXT:=fun outer H s E e s'=>∃ (x C dx:Addr) (H':Hp) (B:Tf),e = .ref x/\Lie P w outer H s x C dx H' B s'/\E (.ref C) (some dx) H'
def off (H:Hp) (x:Addr):Hp:=fun b=>if b=x then none else H b
theorem off_ne {H:Hp} {x b:Addr} (h:b≠x):off H x b=H b:=if_neg h
theorem ud {H:Hp} {x b:Addr} {u:HO} (h:off H x b=some u):b≠x/\H b=some u:=by
 unfold off at h
 split at h
 ·cases h
 ·rename_i z
  exact⟨z,h⟩
theorem mH {P:RV} {w:Sv} {H H':Hp} {h h':Tf} (k:HOk P w H h) (sub:∀ b u,H' b=some u->H b=some u) (ow:∀ b a,H b=some (.own a)->H' b=some (.own a)) (tp:∀ b xs,H b=some (.tup xs)->H' b=some (.tup xs)) (keep:∀ b u o,H' b=some u->h.get? b=some o->h'.get? b=some o):HOk P w H' h':=fun b u e =>
 (k b u (sub b u e)).stay (fun c o hc q=>by
  rcases hc with rfl | hc
  ·exact keep c u o e q
  ·exact keep c _ o (ow c b hc) q) (fun c q=>ow c b q) tp
theorem G9 {P:RV} {w:Sv} {H:Hp} {h:Tf} {a:Addr} {u:HO} (x:fV P w H h a u):∃ o,h.get? a=some o:=by
 cases u with
 | lst xs=>obtain⟨_,_,_,_,e⟩:=x; exact⟨_,e⟩
 | tup xs=>obtain⟨_,_,_,ob,e,_⟩:=x; exact⟨_,e⟩
 | dK kvs=>obtain⟨_,_,_,_,ob,_,_,e,_⟩:=x; exact⟨_,e⟩
 | dT kvs=>obtain⟨_,_,_,_,ob,_,_,e,_⟩:=x; exact⟨_,e⟩
 | set S n=>obtain⟨ob,_,_,_,e,_⟩:=x; exact⟨_,e⟩
 | ins C dx fs=>obtain⟨_,_,_,e,_⟩:=x; exact⟨_,e⟩
 | own y=>exact x
 | xd fs=>obtain⟨_,⟨od,_,_,e,_⟩,_⟩:=x; exact⟨_,e⟩
 | rng lo hi=>obtain⟨_,_,_,e⟩:=x; exact⟨_,e⟩
 | frz ob u=>exact⟨_,x.1⟩
 | tbl ps=>exact⟨_,x⟩
 | met f y=>exact⟨_,x⟩
 | ext φ=>exact x.2.1
section
variable {P:RV} {w:Sv} {K:R7} {mg:Str->Option Value} {base:Tf} {N:List Str} {qual:Str} {scope:Va} {f:Addr} {cd:Value} {A:Sh} {outer:List WQ} {s₀:Ra} {H₀:Hp} {E:XK}
theorem gj:Throws (xm (XL P w) P w K mg base N qual scope f cd A outer s₀ H₀ E) fun x C dx H=>E (.ref C) (some dx) (off H x):=by
 intro pins σ H s x C dx I hx hE
 obtain⟨⟨t,ex⟩,_⟩:=I.hok x _ hx
 have stk:=I.stack
 have fre:=I.wR
 have xs:x ∉ frs (envOfC qual scope s₀.heap.objs.size f cd::outer):=fun z=>by rw[fre x z] at hx; cases hx
 have hin:∀ env∈(envOfC qual scope s₀.heap.objs.size f cd::outer),∀ b,env.frame=some b->b∈x::frs (envOfC qual scope s₀.heap.objs.size f cd::outer):=fun env he b hb=>Ri _ (List.mem_filterMap.mpr ⟨env,he,hb⟩)
 have F:=PySem.W.funFrames_hide stk hin
 show Rt (Ru P w) _ (leaving _ (.ref x)) _ _ s
 refine CK (B:=Uz s.heap (x::frs (envOfC qual scope s₀.heap.objs.size f cd::outer))) (outer:=outer) (L:=s₀.heap.objs.size) I.ok.frames F rfl ex (fun b o e=>Xo _ e) (Yy _ Rc) fun h' F' u'=>?_
 have inB:∀ b o,s.heap.get? b=some o->b≠x->b ∉ frs (envOfC qual scope s₀.heap.objs.size f cd::outer)->(Uz s.heap (x::frs (envOfC qual scope s₀.heap.objs.size f cd::outer))).get? b=some o:=fun b o e h1 h2=>YJ _ e fun z=>(List.mem_cons.mp z).elim h1 h2
 have tk:∀ b u,H b=some u->b ∉ frs (envOfC qual scope s₀.heap.objs.size f cd::outer):=fun b u e z=>by rw[fre b z] at e; cases e
 have old:∀ b o,s₀.heap.get? b=some o->H₀ b=none->b ∉ frs outer->s.heap.get? b=some o/\H b=none/\b ∉ frs (envOfC qual scope s₀.heap.objs.size f cd::outer):=fun b o e n hb=>by
  refine⟨I.base.keep b o e n hb (fun z=>nomatch z),I.base.free b o e n (fun z=>nomatch z),fun z=>?_⟩
  rcases List.mem_cons.mp (I.qm b z) with z | z
  ·have:=Rm (Ro e) I.ok.above
   rw[z] at this
   exact Sx _ this
  ·exact hb z
 have nx:∀ b u,H b=some u->u≠xO x C (some dx)->b≠x:=fun b u e ne z=>by
  subst z
  rw[hx] at e
  exact ne (RQ e).symm
 refine⟨x,C,dx,off H x,_,rfl,⟨I.os,I.bare,⟨F'.stay,F'.bx,F'.frs.2.2,F'.tr⟩,⟨fun b o e n hb _=>?_,fun b o e n hb _=>?_,fun b o e n _=>?_,fun b o e _=>?_,fun b xs' e=>?_,fun b o u e=>?_,fun b ps e=>?_⟩,?_,fun b o e n hb=>?_,fun b u e=>?_,if_pos rfl⟩,hE⟩
 ·obtain⟨e1,e2,e3⟩:=old b o e n hb
  exact F'.stay b o (inB b o e1 (fun z=>by rw[z,hx] at e2; cases e2) e3)
 ·obtain⟨sl,e1⟩:=I.base.slot b o e n hb (fun z=>nomatch z)
  obtain⟨_,o',ho',nf⟩:=I.ok.rH.mem hb
  have z:some o=some o':=e.symm.trans ho'
  cases z
  obtain⟨sl',e2⟩:=u'.sl b _ e1 nf
  exact⟨sl',e2⟩
 ·have z:=I.base.free b o e n (fun z=>nomatch z)
  unfold off
  split
  ·rfl
  ·exact z
 ·obtain⟨o1,e1⟩:=I.base.there b o e (fun z=>nomatch z)
  exact u'.th b o1 e1
 ·have z:=I.base.tups b xs' e
  rw[off_ne (nx b _ z (fun q=>nomatch q))]
  exact z
 ·have z:=I.base.frzs b o u e
  rw[off_ne (nx b _ z (fun q=>nomatch q))]
  exact z
 ·obtain⟨more,z⟩:=I.base.tbls b ps e
  exact⟨more,by rw[off_ne (nx b _ z (fun q=>nomatch q))]; exact z⟩
 ·refine mH I.hok (fun b u e=>(ud e).2) (fun b a e=>by rw[off_ne (nx b _ e (fun q=>nomatch q))]; exact e) (fun b xs' e=>by rw[off_ne (nx b _ e (fun q=>nomatch q))]; exact e) fun b u o e q=>?_
  obtain⟨h1,h2⟩:=ud e
  exact F'.stay b o (inB b o q h1 (tk b u h2))
 ·obtain⟨e1,e2,e3⟩:=old b o e n hb
  exact inB b o e1 (fun z=>by rw[z,hx] at e2; cases e2) e3
 ·obtain⟨h1,h2⟩:=ud e
  obtain⟨o,e1⟩:=G9 (I.hok b u h2)
  have e2:=inB b o e1 h1 (tk b u h2)
  exact⟨o,F'.stay b o e2,e2⟩
end
end L2
namespace L2
open PySem PySem.Spec PyProof.Rows
section
variable {P:RV} {w:Sv} {K:R7} {mg:Str->Option Value} {base:Tf} {N:List Str} {qual:Str} {scope:Va} {f:Addr} {cd:Value} {A:Sh} {outer:List WQ} {s₀:Ra} {H₀:Hp} {E:XK}
theorem cW:Passes (XL P w) (xm (XL P w) P w K mg base N qual scope f cd A outer s₀ H₀ E) E:=by
 intro pins σ H s e s' I hl
 obtain⟨x,C,dx,H',B,rfl,Li,hE⟩:=hl
 show Rt (Ru P w) _ (leaving _ (.ref x)) _ _ s'
 refine zA (outer:=outer) (L:=s₀.heap.objs.size) I.ok.frames rfl Li.fly fun h' F' u'=>?_
 have old:∀ b o,s₀.heap.get? b=some o->H₀ b=none->b ∉ frs outer->s.heap.get? b=some o/\H b=none/\b ∉ frs (envOfC qual scope s₀.heap.objs.size f cd::outer):=fun b o e n hb=>by
  refine⟨I.base.keep b o e n hb (fun z=>nomatch z),I.base.free b o e n (fun z=>nomatch z),fun z=>?_⟩
  rcases List.mem_cons.mp (I.qm b z) with z | z
  ·have:=Rm (Ro e) I.ok.above
   rw[z] at this
   exact Sx _ this
  ·exact hb z
 have inS:∀ b,b∈frs outer->b∈frs (envOfC qual scope s₀.heap.objs.size f cd::outer):=fun b hb=>by
  obtain⟨en,h1,h2⟩:=List.mem_filterMap.mp hb
  exact List.mem_filterMap.mpr ⟨en,Ri _ h1,h2⟩
 refine⟨x,C,dx,H',B,rfl,⟨Li.os.trans I.os,Li.bare,⟨F'.stay,F'.bx,F'.frs.2.2,F'.tr⟩,⟨fun b o e n hb _=>?_,fun b o e n hb _=>?_,fun b o e n _=>?_,fun b o e _=>?_,fun b xs' e=>Li.un.tups b xs' (I.base.tups b xs' e),fun b o u e=>Li.un.frzs b o u (I.base.frzs b o u e),fun b ps e=>?_⟩,?_,fun b o e n hb=>?_,fun b u e=>?_,Li.xn⟩,hE⟩
 ·obtain⟨e1,e2,e3⟩:=old b o e n hb
  exact F'.stay b o (Li.kb b o e1 e2 e3)
 ·obtain⟨sl,e1⟩:=I.base.slot b o e n hb (fun z=>nomatch z)
  have n1:=I.base.free b o e n (fun z=>nomatch z)
  obtain⟨_,o',ho',nf⟩:=I.ok.rH.mem hb
  have z:some o=some o':=e.symm.trans ho'
  cases z
  obtain⟨sl1,e2⟩:=Li.un.slot b _ e1 n1 (inS b hb) (fun z=>nomatch z)
  obtain⟨sl2,e3⟩:=u'.sl b _ e2 nf
  exact⟨sl2,e3⟩
 ·have n1:=I.base.free b o e n (fun z=>nomatch z)
  obtain⟨o1,e1⟩:=I.base.there b o e (fun z=>nomatch z)
  exact Li.un.free b o1 e1 n1 (fun z=>nomatch z)
 ·obtain⟨o1,e1⟩:=I.base.there b o e (fun z=>nomatch z)
  obtain⟨o2,e2⟩:=Li.un.there b o1 e1 (fun z=>nomatch z)
  exact u'.th b o2 e2
 ·obtain⟨m1,z⟩:=I.base.tbls b ps e
  obtain⟨m2,z2⟩:=Li.un.tbls b _ z
  exact⟨m1++m2,by rw[z2,Wv]⟩
 ·refine mH Li.hok (fun _ _ e=>e) (fun _ _ e=>e) (fun _ _ e=>e) fun b u o e q=>?_
  obtain⟨o',e1,e2⟩:=Li.hb b u e
  rw[e1] at q
  cases q
  exact F'.stay b _ e2
 ·obtain⟨e1,e2,e3⟩:=old b o e n hb
  exact Li.kb b o e1 e2 e3
 ·obtain⟨o',e1,e2⟩:=Li.hb b u e
  exact⟨o',F'.stay b _ e2,e2⟩
end
end L2
namespace L2
open PySem PySem.Spec PyProof.Rows
theorem Lie.on {P:RV} {w:Sv} {l:List WQ} {H H':Hp} {s s':Ra} {x C dx:Addr} {B B0 h':Tf} (Li:Lie P w l H s x C dx H' B s') (F':Fly B l x C dx .none h') (u':Up s'.heap h') (ff:s.heap.FunFrames B0 l) :
  Lie P w l H s x C dx H' B { s' with heap:=h' }:=by
 refine⟨Li.os,Li.bare,F',⟨fun b o e n hb _=>F'.stay b o (Li.kb b o e n hb),fun b o e n hb _=>?_,fun b o e n _=>Li.un.free b o e n (fun z=>nomatch z),fun b o e _=>?_,Li.un.tups,Li.un.frzs,Li.un.tbls⟩,?_,Li.kb,fun b u e=>?_,Li.xn⟩
 ·obtain⟨sl,e2⟩:=Li.un.slot b o e n hb (fun z=>nomatch z)
  obtain⟨_,o',ho',nf⟩:=ff.mem hb
  have z:some o=some o':=e.symm.trans ho'
  cases z
  obtain⟨sl2,e3⟩:=u'.sl b _ e2 nf
  exact⟨sl2,e3⟩
 ·obtain⟨o2,e2⟩:=Li.un.there b o e (fun z=>nomatch z)
  exact u'.th b o2 e2
 ·refine mH Li.hok (fun _ _ e=>e) (fun _ _ e=>e) (fun _ _ e=>e) fun b u o e q=>?_
  obtain⟨o',e1,e2⟩:=Li.hb b u e
  rw[e1] at q
  cases q
  exact F'.stay b _ e2
 ·obtain⟨o',e1,e2⟩:=Li.hb b u e
  exact⟨o',F'.stay b _ e2,e2⟩
def cO (x C dx:Addr):HO:=.ext fun h=>∃ vs sl,h.get? x=some { cls:=.ref C,dict:=some dx,data:=.fields vs,slots:=sl }
theorem O1 {P:RV} {w:Sv} {H:Hp} {h:Tf} {x C dx:Addr} {vs:Array Value} {sl:Array (Option Value)} (e:h.get? x=some { cls:=.ref C,dict:=some dx,data:=.fields vs,slots:=sl }):fV P w H h x (cO x C dx) :=
 ⟨⟨vs,sl,e⟩,⟨_,e⟩,fun h1 h2 ⟨vs',sl',e'⟩ k=>⟨vs',sl',k _ e'⟩⟩
abbrev Cx.marked (X:Cx) (x:Addr):Cx:={ X with A:=X.A.mark (some (.ref x)),calm:=false,xe:=fun _ _=>False }
theorem Cx.Ok.marked {X:Cx} (ok:X.Ok) (x:Addr):(X.marked x).Ok :=
 ⟨ok.mod,ok.kind,ok.glob,ok.blt,ok.above,ok.inj,ok.has,ok.cab,(fun z=>nomatch z),ok.frames,ok.stk,ok.exf,ok.bs,ok.bsz,ok.noex,ok.exfs,ok.rH,ok.frf⟩
theorem Cx.Ok.unmarked {X:Cx} {x:Addr} (hd:X.calm=true->X.A.handled=none) (ok:(X.marked x).Ok):X.Ok :=
 ⟨ok.mod,ok.kind,ok.glob,ok.blt,ok.above,ok.inj,ok.has,ok.cab,hd,ok.frames,ok.stk,ok.exf,ok.bs,ok.bsz,ok.noex,ok.exfs,ok.rH,ok.frf⟩
section
variable {X:Cx} {pins:List (Addr × U3)} {σ:St} {H H':Hp} {s s':Ra} {x C dx:Addr} {B:Tf}
theorem Inv.marked (I:Inv X pins σ H s) (x:Addr):Inv (X.marked x) pins σ H s:=⟨I.ok.marked x,I.os,I.bare,I.base,I.loc,I.cell,I.free,I.freeC,I.pin,I.hok,I.len⟩
theorem Inv.unmarked (I:Inv (X.marked x) pins σ H s) (hd:X.calm=true->X.A.handled=none):Inv X pins σ H s:=⟨I.ok.unmarked hd,I.os,I.bare,I.base,I.loc,I.cell,I.free,I.freeC,I.pin,I.hok,I.len⟩
theorem Lie.back (I:Inv X pins σ H s) (Li:Lie X.prog X.w X.stack H s x C dx H' B s'):Inv X pins σ (upd H' x (cO x C dx)) s':=by
 have J:=I.call' (s':=s') (ch:=[]) Li.os Li.un Li.hok Li.bare (fun b z=>nomatch z)
 obtain⟨vs,T,oT,ts,sl,ex,_⟩:=Li.fly.tr
 have xs:x ∉ frs X.stack:=fun z=>by
  obtain⟨_,o,ho,nf⟩:=Li.fly.frs.mem z
  rw[ex] at ho
  cases ho
  exact nf vs rfl
 have xl:x≠X.env.locals:=fun z=>by
  obtain⟨m,⟨o,es,ep,e,d,_⟩,_⟩:=J.loc
  rw[← z,ex] at e
  cases e
  cases d
 have out:∀ b o,s.heap.get? b=some o->H b=none->b≠x:=fun b o e n z=>by
  subst z
  have:=Li.kb b o e n xs
  rw[Li.fly.bx] at this
  cases this
 have hne:∀ b u,H' b=some u->b≠x:=fun b u e z=>by
  rw[z,Li.xn] at e
  cases e
 refine⟨J.ok,J.os,J.bare,⟨J.base.keep,J.base.slot,fun b o e n he=>?_,J.base.there,fun b xs' e=>?_,fun b o u e=>?_,fun b ps e=>?_⟩,J.loc,J.cell,?_,fun y c e=>?_,fun p hp=>?_,?_,J.len⟩
 ·have n1:=I.base.free b o e n he
  obtain⟨o1,e1⟩:=I.base.there b o e he
  rw[aR (out b o1 e1 n1)]
  exact J.base.free b o e n he
 ·have z:=J.base.tups b xs' e
  rw[aR (hne b _ z)]
  exact z
 ·have z:=J.base.frzs b o u e
  rw[aR (hne b _ z)]
  exact z
 ·obtain⟨m,z⟩:=J.base.tbls b ps e
  exact⟨m,by rw[aR (hne b _ z)]; exact z⟩
 ·rw[aR (Tw xl)]
  exact J.free
 ·obtain⟨v,o,ho,hd⟩:=J.cell y c e
  have:c≠x:=fun z=>by
   rw[z,ex] at ho
   cases ho
   cases hd
  rw[aR this]
  exact J.freeC y c e
 ·obtain⟨e1,e2,e3⟩:=J.pin p hp
  obtain⟨i1,i2,i3⟩:=I.pin p hp
  refine⟨e1,?_,e3⟩
  rw[aR (out _ _ i1 i2)]
  exact e2
 ·intro b u e
  by_cases hb:b=x
  ·subst hb
   rw[aj] at e
   cases e
   exact O1 ex
  ·rw[aR hb] at e
   refine (J.hok b u e).stay (fun _ _ _ q=>q) (fun c q=>?_) fun c xs' q=>?_
   ·rw[aR (hne c _ q)]
    exact q
   ·rw[aR (hne c _ q)]
    exact q
end
end L2
namespace L2
open PySem PySem.Spec PyProof.Rows
structure XRd (K:RD) (C G:Addr) (f:Str):Prop where
 obj:∃ nm q N bs bm hdct sn sub ab col dd k0 k1 k2 k3 k5 id,K.lookup C=some (Vu nm q C N bs bm hdct sn sub ab col dd k0 k1 k2 k3 k5 id)/\(R5 C::bm).contains (.ref G)=true
 top:∃ nm q N bs bm hdct sn sub ab col dd k0 k1 k2 k3 k5 id,K.lookup G=some (Vu nm q G N bs bm hdct sn sub ab col dd k0 k1 k2 k3 k5 id)/\bm.contains (.type "BaseException")=true
 ga:VV K (.ref C) "__getattribute__" = some (some (.builtin "BaseException.__getattribute__"))
 gh:VV K (.ref C) "__getattr__" = some none
 up:∃ cd,PySem.W.clsIn K C=some cd/\rE cd.mro=true
 hd:Zu K C=true
 no:VV K (.ref C) f=some none
section
variable {M:ZW} {A:Sh} {E:Value->Ra->Prop} {K:R7} {s:Ra} {C G x dx:Addr} {f:Str} {vs:Array Value} {sl:Array (Option Value)}
theorem CZ {Q:Bool->Ra->Prop} (X:K.In s.heap) (R:XRd K C G f) (he:s.heap.get? x=some { cls:=.ref C,dict:=some dx,data:=.fields vs,slots:=sl }) (hq:Q true s):Rt M A (excMatches (.ref x) (.ref G)) Q E s:=by
 obtain⟨n1,q1,N1,bs1,bm1,hd1,sn1,sub1,ab1,col1,dd1,a0,a1,a2,a3,a5,id1,l1,c1⟩:=R.obj
 obtain⟨n2,q2,N2,bs2,bm2,hd2,sn2,sub2,ab2,col2,dd2,b0,b1,b2,b3,b5,id2,l2,c2⟩:=R.top
 have h1:=X _ _ l1
 have h2:=X _ _ l2
 have cB:(R5 G::bm2).contains (.type "BaseException")=true:=by rw[Um,c2,WN]
 have nt:=tc_notTuple
 obtain⟨hp,g,d,tk,os⟩:=s
 unfold excMatches
 repeat (first | with_reducible refine T9 he ?_ | with_reducible refine T9 h2 ?_ | (with_reducible refine U9 h2 ?_; rw[cB]) | (with_reducible refine U9 h1 ?_; rw[c1]) | wp_step)
 exact hq
end
theorem vg:∀ {l:List Value},rE l=true->l.contains (.type "BaseException")=true
 | [],h=>by cases h
 | a::r,h=>by
  rcases kY h with⟨c,rfl,h'⟩ | e
  ·rw[Um,vg h',WN]
  ·rw[e]
   rfl
section
variable {prog:RV} {w:Sv} {A:Sh} {E:Value->Ra->Prop} {K:R7} {s:Ra} {C G x:Addr} {ox:U3} {od:Option U3} {f:Str} {expr:Bool} {v:Value}
theorem KH {Q:Value->Ra->Prop} (X:K.In s.heap) (R:XRd K C G f) (I:W.InstAt s.heap x ox C od) (hf:W.findObj K C od f=some (.value v)) (hh:W.handedIn v=true) (h:Q v { s with toks:=s.toks+1 }) :
  Rt (Ru prog w) A (getAttr (.ref x) f expr) Q E s:=by
 obtain⟨cd,hc,hu⟩:=R.up
 have ne:cd.mro.isEmpty=false:=by cases q:cd.mro with | nil=>rw[q] at hu; cases hu | cons _ _=>rfl
 have sub:YT (Ru prog w) s.heap (isInstance (.ref x) (.type "BaseException")) true:=I.type.andThen (PySem.W.looks_mroIn X (by unfold PySem.W.mroIn; rw[hc,Option.bind_some,if_neg (by rw[ne]; decide),vg hu]))
 have L0:=I.type (M:=Ru prog w)
 have L1:=Xe (M:=Ru prog w) X R.ga
 have L2:=Xe (M:=Ru prog w) X R.gh
 have L3:=PySem.W.looks_find (M:=Ru prog w) X I hf
 obtain⟨hp,g,d,t,os⟩:=s
 unfold getAttr getAttrBy
 refine Q9 (wpAny_mkText (Ug (Q9 (L0.at (Q9 (L1.at ?_))))))
 show Rt _ _ (if (onTheHeap (R5 C) && (YS "BaseException.__getattribute__" == YS "object.__getattribute__"))=true then _ else getAttrByItsOwn (.ref x) (.str f t) (.ref C) (.builtin "BaseException.__getattribute__") true expr) _ _ _
 have nb:(YS "BaseException.__getattribute__" == YS "object.__getattribute__")=false:=by decide+kernel
 rw[nb,YD,if_neg Rv]
 unfold getAttrByItsOwn
 refine Q9 (m:=hookBefore (.ref C)) (show Rt _ _ (Y5 (.ref C) "__getattr__") _ _ _ from L2.at ?_)
 refine Q9 (YQ (Ug ?_))
 have ec:callGetattribute (.ref x) (.str f t) (.builtin "BaseException.__getattribute__") expr=boundAndCalled (.builtin "BaseException.__getattribute__") (.ref x) (.str f t):=by
  unfold callGetattribute
  rw[if_neg (by cases expr <;> decide)]
 rw[ec]
 unfold boundAndCalled
 rw[PySem.F.attr_ValueError.ga.bind (.ref x)]
 refine Q9 (Rj (WR (Xd PySem.F.attr_ValueError.ga.plain PySem.F.entry_bexc_ga (@PySem.W.check_slot (Ru prog w) _ _ ⟨hp,g,d,t+1,os⟩ "BaseException.__getattribute__" "BaseException" "__getattribute__" (.ref x) [.str f t] [] _ (by decide+kernel) (by decide+kernel) sub (PySem.F.args_bexc_ga _ _) ?_))))
 unfold Builtin.«object.__getattribute__»
 refine Q9 (Rj (Q9 (Rj (Q9 (L0.at (Q9 (L3.at ?_)))))))
 refine Rj ?_
 show Rt _ _ (handedOut v) _ _ _
 rw[PySem.W.handedOut_of hh]
 exact Rj h
end
section
variable {X:Cx} {e:Expr} {f:Str} {pos:Wi} {ta:TE}
def NK (K:R7) (ta:TE) (f:Str):TE:=fun σ H Q=>ta σ H fun x H1=>∃ a C G dx fs v,x = .ref a/\H1 a=some (cO a C dx)/\H1 dx=some (.xd fs)/\XRd K C G f/\fs.lookup f=some v/\Q v H1
theorem Ke (he:PE X e ta) (hb:attributeBase e f X.env (UG e X.env)=UG e X.env):PE X (.Attribute e f pos) (NK X.K ta f):=by
 intro pins s σ H Q I h
 refine JS hb (thn (he pins s σ H _ I h) fun u s1 ⟨x,H1,I1,rx,a,C,G,dx,fs,v,ex,ea,ed,R,l,q⟩=>?_)
 subst ex
 obtain rfl:u=R5 a:=rx
 obtain⟨⟨vs,sl,e0⟩,_⟩:=I1.hok a _ ea
 obtain⟨mA,N,r⟩:=I1.hok dx _ ed
 obtain⟨u,hu,ru⟩:=HR.some_of (v:=v) (o:=mA f) (by rw[← l]; exact r f)
 obtain⟨od,ho,hl⟩:=vm N
 have J:PySem.W.InstAt s1.heap a { cls:=.ref C,dict:=some dx,data:=.fields vs,slots:=sl } C (some od):=⟨e0,rfl,rfl,ho⟩
 exact KH I1.kIn R J (PySem.W.findObj_own R.hd R.no rfl (by rw[hl,hu])) (Cu ru) ⟨v,H1,I1.tok _,ru,q⟩
end
theorem Inv.forget {X:Cx} {pins:List (Addr × U3)} {σ:St} {H:Hp} {s:Ra} {h':Tf} {m':Str->Option Value} {tk:Nat} (I:Inv X pins σ H s) (hn:h'.Ns X.env.locals m') (hs:Vy X.env.locals s.heap h') :
  Inv X pins (Rq X.N.length none) H { s with heap:=h',toks:=tk }:=by
 have old:∀ b o,X.s₀.heap.get? b=some o->b≠X.env.locals:=fun b o e=>RX (Rm (Ro e) I.ok.above)
 refine⟨I.ok,I.os,I.bare,⟨fun b o e n hb hx=>(hs.2 b (old b o e)).trans (I.base.keep b o e n hb hx),fun b o e n hb hx=>?_,I.base.free,fun b o e hx=>?_,I.base.tups,I.base.frzs,I.base.tbls⟩,⟨m',hn,fun j y v e1 e2=>?_⟩,fun y c e=>?_,I.free,I.freeC,fun p hp=>?_,fun b ob e=>?_,by simp⟩
 ·obtain⟨sl,e1⟩:=I.base.slot b o e n hb hx
  exact⟨sl,(hs.2 b (old b o e)).trans e1⟩
 ·obtain⟨o',e1⟩:=I.base.there b o e hx
  exact⟨o',(hs.2 b (old b o e)).trans e1⟩
 ·rw[XR] at e2
  split at e2 <;> cases e2
 ·obtain⟨v,z⟩:=I.cell y c e
  exact⟨v,z.sameBut hs (I.cne y c e)⟩
 ·obtain⟨e1,e2,e3,e4⟩:=I.pin p hp
  exact⟨(hs.2 _ e3).trans e1,e2,e3,e4⟩
 ·refine (I.hok b ob e).stay (fun c o hc q=>(hs.2 c ?_).trans q) (fun _ q=>q) fun _ _ q=>q
  rintro rfl
  rcases hc with rfl | hc
  ·rw[I.free] at e; cases e
  ·rw[I.free] at hc; cases hc
section
variable {X:Cx} {pins:List (Addr × U3)} {σ:St} {H H':Hp} {s s':Ra} {x C G dx:Addr} {B:Tf} {c n f:Str} {p p1 p2 p3 p4 pos:Wi} {k:Nat} {i:Nat} {D:Ends} {fs:List (Str × V)} {v:V}
theorem Be (I:Inv X pins σ H s) (Li:Lie X.prog X.w X.stack H s x C dx H' B s') (stk:X.stack=X.env::X.outer/\X.env.frame=some X.env.locals) (R:XRd X.K C G f) (hg:Gl X c) (hm:X.mg c=some (.ref G)) (hN:X.N.Nodup) (hi:X.N[i]? = some n)
  (hl:X.env.scope.names.lookup n=some .local) (ed:H' dx=some (.xd fs)) (l:fs.lookup f=some v) (q:∀ (u:HO) (a:Addr),upd H' x u a=none->D.rt (.ref a) (upd (upd H' x u) a (.tup [v])))
  (hd:(c == ("__debug__" : Str))=false:=by decide) (hd1:(n == ("__debug__" : Str))=false:=by decide) (hd2:(n == ("__classdict__" : Str))=false:=by decide) :
  Rt (Ru X.prog X.w) X.A (U4 (.ref x) X.env) (fun _ s2=>Rt (Ru X.prog X.w) X.A (ZF (.ref x) none) (fun _ s3 =>
   Rt (Ru X.prog X.w) X.A (handleBy (.ref x) X.env [.ExceptHandler (some (.Name c p)) (some n) [.Return (some (.Tuple [.Attribute (.Name n p1) f p2] k p3)) p4] pos]) (SP X pins D) X.xe s3) X.xe s2) X.xe s':=by
 have fr:X.A.frames=some (X.env::X.outer):=by rw[I.ok.frames,stk.1]
 have fl0:Fly B (X.env::X.outer) x C dx .none s'.heap:=stk.1▸Li.fly
 refine tK fr stk.2 fl0 fun h1 F1 u1=>?_
 refine lO (s:={ s' with heap:=h1 }) F1 fun h2 F2 u2=>?_
 have fl2:Fly B X.stack x C dx .none h2:=stk.1.symm▸F2
 have L2:=Li.on fl2 (u1.trans u2) I.stack
 have I2:=(L2.back I).marked x
 obtain⟨vs,T,oT,ts,sl,ex2,_⟩:=F2.tr
 refine wpAny_handleBy_cons (codeAny_handlers_test ?_) (by intro q; cases q)
 refine m7 I2 hg hm ?_ hd
 refine CZ I2.kIn R ex2 ?_
 rw[if_pos rfl]
 refine codeAny_handlers_suite_as ?_
 refine lO (s:={ s' with heap:=h2 }) F2 fun h3 F3 u3=>?_
 have fl3:Fly B X.stack x C dx .none h3:=stk.1.symm▸F3
 have L3:=Li.on fl3 ((u1.trans u2).trans u3) I.stack
 have I3:=(L3.back I).marked x
 refine pC (X:=X.marked x) (v:=.ref x) I3 hN hi (.inl hl) rfl (fun s4 I4=>?_) (.inr hl)
 have hiσ:i < σ.length:=by
  have:=I.len
  rw[this]
  exact (List.getElem?_eq_some_iff.mp hi).1
 have dxx:dx≠x:=fun z=>by
  rw[z,Li.xn] at ed
  cases ed
 have P:PSs (X.marked x) [.Return (some (.Tuple [.Attribute (.Name n p1) f p2] k p3)) p4] (Ow (Qj (oO (NK X.K (Ai i) f) Fz))) :=
  aA (aJ (bh (aa (Ke (HS (X:=X.marked x) hi (.inl hl) hd1 hd2) rfl) ao)))
 refine Su (P pins s4 (σ.set i (some (.ref x))) _ { nx:=fun _ _=>False,rt:=D.rt } I4 ?_) (fun fl s5 h5=>?_) fun _ _ z=>z.elim
 ·refine⟨.ref x,Yd hiσ,⟨x,C,G,dx,fs,v,rfl,aj,(aR dxx).trans ed,R,l,?_⟩⟩
  exact⟨by rw[ZV]; show 1<=_; lia,fun a ha=>q _ a ha⟩
 ·cases fl with
  | next=>obtain⟨_,_,_,z⟩:=h5; exact SX z
  | brk=>obtain⟨_,_,_,z⟩:=h5; exact SX z
  | cont=>obtain⟨_,_,_,z⟩:=h5; exact SX z
  | ret u =>
   obtain⟨v5,σ5,H5,I5,r5,q5⟩:=h5
   have J5:Inv X pins σ5 H5 s5:=I5.unmarked I.ok.hd
   obtain⟨m,hn,_⟩:=id J5.loc
   exact wpAny_nameGoes hl hn (by rw[I.ok.kind]; rfl) fun h6 m6 hn6 hs6=>⟨v5,_,H5,J5.forget hn6 hs6,r5,q5⟩
end
end L2
namespace L2
open PySem PySem.Spec PyProof.Rows
abbrev Cx.held (X:Cx) (pn:List (Addr × U3)) (E:Value->Ra->Prop):Cx:={ X with pn:=pn,xe:=E }
section
variable {X:Cx} {pins ps qs:List (Addr × U3)} {σ:St} {H:Hp} {s:Ra} {E:Value->Ra->Prop}
theorem Inv.hold (I:Inv X pins σ H s):Inv (X.held (X.pn++pins) E) [] σ H s :=
 ⟨⟨I.ok.mod,I.ok.kind,I.ok.glob,I.ok.blt,I.ok.above,I.ok.inj,I.ok.has,I.ok.cab,I.ok.hd,I.ok.frames,I.ok.stk,I.ok.exf,I.ok.bs,I.ok.bsz,I.ok.noex,I.ok.exfs,I.ok.rH,I.ok.frf⟩,I.os,I.bare,I.base,I.loc,I.cell,I.free,I.freeC,fun p hp=>I.pin p (by simpa using hp),I.hok,I.len⟩
theorem Inv.qK (I:Inv (X.held (X.pn++pins) E) qs σ H s):Inv X pins σ H s :=
 ⟨⟨I.ok.mod,I.ok.kind,I.ok.glob,I.ok.blt,I.ok.above,I.ok.inj,I.ok.has,I.ok.cab,I.ok.hd,I.ok.frames,I.ok.stk,I.ok.exf,I.ok.bs,I.ok.bsz,I.ok.noex,I.ok.exfs,I.ok.rH,I.ok.frf⟩,I.os,I.bare,I.base,I.loc,I.cell,I.free,I.freeC,fun p hp=>I.pin p (Vp _ hp),I.hok,I.len⟩
theorem SP.qK {D:Ends} {f:Flow} (h:SP (X.held (X.pn++pins) E) qs D f s):SP X pins D f s:=by
 cases f with
 | next=>obtain⟨a,b,I,q⟩:=h; exact⟨a,b,I.qK,q⟩
 | brk=>obtain⟨a,b,I,q⟩:=h; exact⟨a,b,I.qK,q⟩
 | cont=>obtain⟨a,b,I,q⟩:=h; exact⟨a,b,I.qK,q⟩
 | ret u=>obtain⟨v,a,b,I,r,q⟩:=h; exact⟨v,a,b,I.qK,r,q⟩
end
def XW (K:R7) (G:Addr) (f:Str) (R:VK):XK:=fun Cv dx' H=>∃ C dx fs v,Cv = .ref C/\dx'=some dx/\XRd K C G f/\H dx=some (.xd fs)/\fs.lookup f=some v/\∀ (x:Addr) (u:HO) (a:Addr),H x=none->upd H x u a=none->R (.ref a) (upd (upd H x u) a (.tup [v]))
def QL (K:R7) (G:Addr) (f:Str) (t:XK->TS):TS:=fun D σ H=>t (XW K G f D.rt) D σ H
section
variable {X:Cx} {G:Addr} {c n f:Str} {p p1 p2 p3 p4 pos pos':Wi} {k:Nat} {body:List Stmt} {t:XK->TS}
theorem N5 (i:Nat) (stk:X.stack=X.env::X.outer/\X.env.frame=some X.env.locals) (hg:Gl X c) (hm:X.mg c=some (.ref G)) (hN:X.N.Nodup) (hi:X.N[i]? = some n) (hl:X.env.scope.names.lookup n=some .local)
  (hb:∀ (pn:List (Addr × U3)) (E:Value->Ra->Prop) (W:XK),Passes (XL X.prog X.w) (X.held pn E) W->PSs (X.held pn E) body (t W))
  (hd:(c == ("__debug__" : Str))=false:=by decide) (hd1:(n == ("__debug__" : Str))=false:=by decide) (hd2:(n == ("__classdict__" : Str))=false:=by decide) :
  PS X (.Try body [.ExceptHandler (some (.Name c p)) (some n) [.Return (some (.Tuple [.Attribute (.Name n p1) f p2] k p3)) p4] pos] [] [] pos') (QL X.K G f t):=by
 intro pins s σ H D I h
 refine wpAny_Try_except ?_
 let E:Value->Ra->Prop:=fun e s'=>∃ (pins':List (Addr × U3)) (σ':St) (H1:Hp) (s1:Ra),Inv X pins σ' H1 s1/\XL X.prog X.w X.stack H1 s1 (XW X.K G f D.rt) e s'
 have P:Passes (XL X.prog X.w) (X.held (X.pn++pins) E) (XW X.K G f D.rt):=fun pins' σ' H1 s1 e s' J q=>⟨pins',σ',H1,s1,J.qK,q⟩
 refine Su (hb _ E _ P [] s σ H D I.hold h) (fun fl s1 q=>?_) fun e s1 q=>?_
 ·have q':=q.qK
  cases fl with
  | next=>exact Yi q'
  | brk=>exact q'
  | cont=>exact q'
  | ret u=>exact q'
 ·obtain⟨_,σ',H1,s0,J,x,C,dx,H',B,rfl,Li,C',dx',fs,v,e1,e2,R,ed,l,w⟩:=q
  cases e1
  cases e2
  exact Be J Li stk R hg hm hN hi hl ed l (fun u a ha=>w x u a Li.xn ha) hd hd1 hd2
end
end L2
namespace L2
open PySem PySem.Spec PyProof.Rows
theorem GK {X:Cx} {E:XK} (st:X.stack=X.env::X.outer/\X.env.frame=some X.env.locals) (hex:X.ex=[])
  (hxe:∀ e s',Rt (Ru X.prog X.w) X.A (leaving X.env e) (fun _ s2=>XL X.prog X.w X.outer X.H₀ X.s₀ E e s2) (fun e2 s2=>XL X.prog X.w X.outer X.H₀ X.s₀ E e2 s2) s'->X.xe e s'):Passes (XL X.prog X.w) X E:=by
 intro pins σ H s e s' I hl
 obtain⟨x,C,dx,H',B,rfl,Li,hE⟩:=hl
 have nex:∀ b,b ∉ X.ex:=fun b z=>by
  rw[hex] at z
  cases z
 have fl0:Fly B (X.env::X.outer) x C dx .none s'.heap:=st.1▸Li.fly
 refine hxe _ _ (zA (outer:=X.outer) (by rw[I.ok.frames,st.1]) st.2 fl0 fun h' F' u'=>?_)
 have old:∀ b o,X.s₀.heap.get? b=some o->X.H₀ b=none->b ∉ X.fs->s.heap.get? b=some o/\H b=none/\b ∉ frs X.stack:=fun b o e n hb=>by
  refine⟨I.base.keep b o e n hb (nex b),I.base.free b o e n (nex b),fun z=>?_⟩
  rcases List.mem_cons.mp (I.qm b z) with z | z
  ·have:=Rm (Ro e) I.ok.above
   rw[z] at this
   exact Sx _ this
  ·exact hb z
 have inS:∀ b,b∈X.fs->b∈frs X.stack:=fun b hb=>by
  obtain⟨en,h1,h2⟩:=List.mem_filterMap.mp hb
  rw[st.1]
  exact List.mem_filterMap.mpr ⟨en,Ri _ h1,h2⟩
 refine⟨x,C,dx,H',B,rfl,⟨Li.os.trans I.os,Li.bare,⟨F'.stay,F'.bx,F'.frs.2.2,F'.tr⟩,⟨fun b o e n hb _=>?_,fun b o e n hb _=>?_,fun b o e n _=>?_,fun b o e _=>?_,fun b l e=>Li.un.tups b l (I.base.tups b l e),fun b o u e=>Li.un.frzs b o u (I.base.frzs b o u e),fun b ps e=>?_⟩,?_,fun b o e n hb=>?_,fun b u e=>?_,Li.xn⟩,hE⟩
 ·obtain⟨e1,e2,e3⟩:=old b o e n hb
  exact F'.stay b o (Li.kb b o e1 e2 e3)
 ·obtain⟨sl,e1⟩:=I.base.slot b o e n hb (nex b)
  have n1:=I.base.free b o e n (nex b)
  obtain⟨_,o',ho',nf⟩:=I.ok.rH.mem hb
  have z:some o=some o':=e.symm.trans ho'
  cases z
  obtain⟨sl1,e2⟩:=Li.un.slot b _ e1 n1 (inS b hb) (fun z=>nomatch z)
  obtain⟨sl2,e3⟩:=u'.sl b _ e2 nf
  exact⟨sl2,e3⟩
 ·obtain⟨o1,e1⟩:=I.base.there b o e (nex b)
  exact Li.un.free b o1 e1 (I.base.free b o e n (nex b)) (fun z=>nomatch z)
 ·obtain⟨o1,e1⟩:=I.base.there b o e (nex b)
  obtain⟨o2,e2⟩:=Li.un.there b o1 e1 (fun z=>nomatch z)
  exact u'.th b o2 e2
 ·obtain⟨m1,z⟩:=I.base.tbls b ps e
  obtain⟨m2,z2⟩:=Li.un.tbls b _ z
  exact⟨m1++m2,by rw[z2,Wv]⟩
 ·refine mH Li.hok (fun _ _ e=>e) (fun _ _ e=>e) (fun _ _ e=>e) fun b u o e q=>?_
  obtain⟨o',e1,e2⟩:=Li.hb b u e
  rw[e1] at q
  cases q
  exact F'.stay b _ e2
 ·obtain⟨e1,e2,e3⟩:=old b o e n hb
  exact Li.kb b o e1 e2 e3
 ·obtain⟨o',e1,e2⟩:=Li.hb b u e
  exact⟨o',F'.stay b _ e2,e2⟩
def wX (CX:CXT) (P:RV) (w:Sv) (K:R7) (mg:Str->Option Value) (base:Tf) (N:List Str) (qual:Str) (scope:Va) (f:Addr) (cd:Value) (cl:List (Str × Addr)) (A:Sh) (outer:List WQ) (s:Ra) (H:Hp) (E:XK):Cx :=
 let env:=PySem.W.envX qual scope s.heap.objs.size f cd cl
 {prog:=P,w:=w,K:=K,mg:=mg,base:=base,A:=A.deeper env,N:=N,s₀:=s,H₀:=H,env:=env,outer:=outer,stack:=env::outer,ex:=[],calm:=true,fn:=fun _=>false,pn:=[],
  xe:=fun e s'=>Rt (Ru P w) (A.deeper env) (leaving env e) (fun _ s2=>CX outer H s E e s2) (fun e2 s2=>CX outer H s E e2 s2) s' }
theorem Aj {P:RV} {w:Sv} {K:R7} {mg:Str->Option Value} {base:Tf} {N:List Str} {qual:Str} {scope:Va} {f:Addr} {cd:Value} {cl:List (Str × Addr)} {A:Sh} {outer:List WQ} {s:Ra} {H:Hp} {E:XK} :
  Passes (XL P w) (wX (XL P w) P w K mg base N qual scope f cd cl A outer s H E) E :=
 GK (X:=wX (XL P w) P w K mg base N qual scope f cd cl A outer s H E) ⟨rfl,rfl⟩ rfl fun _ _ z=>z
structure Nf (N:List Str) (sc:Va):Prop where
 kind:sc.kind = .function
 co:sc.isCoroutine=false
 gen:sc.isGenerator=false
 cell:∀ y∈sc.names,y.2≠.cell
 fr:∀ x∈N,sc.names.lookup x=some .free
structure Qv (N:List Str) (sc:Va) (cl:List (Str × Addr)) (σ:St) (H:Hp) (h:Tf):Prop where
 inj:∀ x y c,cl.lookup x=some c->cl.lookup y=some c->x=y
 has:∀ y∈sc.names,y.2 = .free->∃ c,cl.lookup y.1=some c
 cells:∀ x c,cl.lookup x=some c->(∃ v,h.IsCell c v)/\H c=none
 vals:∀ (i:Nat) (x:Str) (v:V),N[i]? = some x->σ[i]? = some (some v)->∃ c u,cl.lookup x=some c/\h.IsCell c (some u)/\RelV v u
 len:σ.length=N.length
theorem Jv {CX:CXT} {P:RV} {w:Sv} {K:R7} {mg:Str->Option Value} {base:Tf} {k:Nat} {N:List Str} {name qual:Str} {params:YH} {body:Expr} {scope:Va} {cl:List (Str × Addr)} {pm ctv:Value} {c' f:Addr} {A:Sh} {outer:List WQ} {s:Ra} {σ:St} {H:Hp} {Q:VK} {E:XK} {te:TE}
  (hr:gB (k+1) A) (e0:Ff P w K mg base A outer s H) (ho:s.heap.get? f=some (W.kla_obj name qual params body scope cl pm c' ctv)) (hcd:s.heap.CodeRec (.ref c') qual)
  (hb:VM (W.kla_fn name qual params body scope cl pm (.ref c') ctv) ⟨[],[]⟩=pure []) (S:Nf N scope) (C:Qv N scope cl σ H s.heap)
  (hp:PE (wX CX P w K mg base N qual scope f (.ref c') cl A outer s H E) body te) (h:te σ H Q):T5 (Ru P w) A (.call (.ref f) ⟨[],[]⟩) (CR CX outer P w H s Q E) s:=by
 have lim:s.heap.NoLimit:=e0.mod.nolimit.keeps fun b o e=>(e0.bs b o e).1
 refine PySem.W.kla_callFunE hr.depth ho rfl S.co S.gen rfl hcd ?_
 rw[hb]
 refine Rj (Xa S.cell (fun y hy=>nomatch hy) (fun h1 ns sb=>⟨lim.fresh _ sb,?_⟩) S.kind)
 have kp:∀ b o,s.heap.get? b=some o->h1.get? b=some o:=fun b o e=>sb.extBut b o (RX (Ro e)) (Rb _ e)
 have noA:∀ b:Addr,b ∉ (wX CX P w K mg base N qual scope f (.ref c') cl A outer s H E).ex:=fun b z=>nomatch z
 have I:Inv (wX CX P w K mg base N qual scope f (.ref c') cl A outer s H E) [] σ H { s with heap:=h1,toks:=s.toks+0 }:=by
  refine⟨⟨e0.mod,S.kind,rfl,rfl,Rh _,C.inj,fun y hy=>?_,fun y c z=>absurd (show false=true from z) Rv,fun _=>hr.hd,Around.frames_deeper e0.frames,.inr ⟨rfl,rfl⟩,fun b z=>absurd z (noA b),e0.bs,e0.bsz,fun b _ _=>noA b,fun b z=>absurd z (noA b),e0.rH,e0.frf⟩,
   rfl,e0.bare,Un.kept kp,⟨_,ns,fun i y v q1 q2 _=>?_⟩,fun y c e=>?_,e0.hok.fresh (Rh _),fun y c e=>(C.cells y c e).2,(fun p z=>nomatch z),e0.hok.kept kp,C.len⟩
  ·rcases hy with hy | hy
   ·exact absurd rfl (S.cell _ (Ti (show scope.names.lookup y=some .cell from hy)))
   ·exact C.has _ (Ti (show scope.names.lookup y=some .free from hy)) rfl
  ·obtain⟨c,u,e1,⟨o,e2,e3⟩,r⟩:=C.vals i y v q1 q2
   exact⟨u,r,.inr ⟨.inr (S.fr y (RL q1)),c,e1,o,kp _ _ e2,e3⟩⟩
  ·obtain⟨⟨v,o,e1,e2⟩,_⟩:=C.cells y c e
   exact⟨v,o,kp _ _ e1,e2⟩
 refine PySem.W.kla_codeExpr (Su (hp [] _ σ H Q I h) (fun u s2 z=>?_) fun e s2 z=>z)
 obtain⟨v,H',J,r,q⟩:=z
 exact⟨v,H',J.os,J.bare,J.base,J.hok,r,q⟩
end L2
namespace L2
open PySem PySem.Spec PyProof.Rows
section
variable {CX:CXT} {P:RV} {w:Sv} {K:R7} {mg:Str->Option Value} {base:Tf} {k:Nat}
theorem Oh {x qual:Str} {st:Stmt} {f:Addr} {fd:Tp} {N ps:List Str} {A:Sh} {outer:List WQ} {s:Ra} {H:Hp} {us:List Value} {vs:List V} {Q:VK} {E:XK} (F:Fun K x qual st f fd) (S:aV N ps (aB st)) (hr:gB (k+1) A) (e0:Ff P w K mg base A outer s H)
  (hb:∀ (kV doc pm:Value) (an:Option Addr) (cdv ct:Value),VM (Yv x qual (cX st) (bO st) (aB st) .none kV doc pm an cdv ct) ⟨us,[]⟩=pure (ps.zip us)) (r:Vals vs us) (hl:vs.length=ps.length)
  (ht:∀ cdv,∃ t,PSs (xm CX P w K mg base N qual (aB st) f cdv A outer s H E) (bO st) t/\t { nx:=fun _ H'=>Q .non H',rt:=Q } (start N vs) H) :
  T5 (Ru P w) A (.call (.ref f) ⟨us,[]⟩) (CR CX outer P w H s Q E) s:=by
 obtain⟨oc,od,kV,doc,pm,an,cdv,ct,osl,rfl,lk,hc⟩:=F.ex
 have KX:K.In s.heap:=e0.mod.kin.keeps fun b o e=>(e0.bs b o e).1
 have lim:s.heap.NoLimit:=e0.mod.nolimit.keeps fun b o e=>(e0.bs b o e).1
 have hkind:((ps.zip us).all fun y=>(aB st).names.lookup y.1 == some .local || (aB st).names.lookup y.1 == some .cell)=true:=List.all_eq_true.mpr fun⟨n,v⟩ hy=>by
  rcases S.par n (Yo hy).1 with q | q <;> simp [q]
 refine Att.Iz KX lim lk hc hr.depth (.of_eq (hb kV doc pm an cdv ct)) hkind (fun s1 x=>?_) S.co S.gen S.kind
 obtain⟨t,h1,h2⟩:=ht cdv
 have I:Inv (xm CX P w K mg base N qual (aB st) f cdv A outer s H E) [] (start N vs) H s1:=wk S hr.hd e0 hl r x
 refine Su (h1 [] s1 (start N vs) H _ I h2) (fun fl s2 z=>?_) fun e s2 z=>z
 cases fl with
 | ret u =>
  obtain⟨v,σ',H',J,rv,q⟩:=z
  exact⟨v,H',J.os,J.bare,J.base,J.hok,rv,q⟩
 | next =>
  obtain⟨σ',H',J,q⟩:=z
  exact⟨.non,H',J.os,J.bare,J.base,J.hok,rfl,q⟩
 | brk=>obtain⟨_,_,_,q⟩:=z; exact SX q
 | cont=>obtain⟨_,_,_,q⟩:=z; exact SX q
structure Lx (CX:CXT) (P:RV) (w:Sv) (K:RD) (mg:Str->Option Value) (base:Tf) (k:Nat) (s₀:Ra) (H₀:Hp) (fs:List Addr) (f:Addr) (sp:Hp->VK->XK->Prop):Prop where
 at_:∃ o fd,s₀.heap.get? f=some o/\o.data = .func fd/\H₀ f=none/\f ∉ fs
 run:∀ (A:Sh) (outer:List WQ) (s:Ra) (H:Hp) (Q:VK) (E:XK),gB k A->Ff P w K mg base A outer s H->(∀ b o,s₀.heap.get? b=some o->H₀ b=none->b ∉ fs->s.heap.get? b=some o)->(∀ b o,s₀.heap.get? b=some o->H₀ b=none->(∃ sl,s.heap.get? b=some { o with slots:=sl })/\H b=none)->(∀ b o u,H₀ b=some (.frz o u)->H b=some (.frz o u))->sp H Q E →
  T5 (Ru P w) A (.call (.ref f) ⟨[],[]⟩) (CR CX outer P w H s Q E) s
end
section
variable {X:Cx} {CX:CXT} {k:Nat} {f:Addr} {sp:Hp->VK->XK->Prop} {E:XK} {x:Str} {p pos:Wi} {te:TE}
def QK (f:Addr) (sp:Hp->VK->XK->Prop) (E:XK) (te:TE):TE:=fun σ H Q=>te σ H fun v H1=>v = .ref f/\sp H1 Q E
theorem Lb (L:Lx CX X.prog X.w X.K X.mg X.base k X.s₀ X.H₀ X.fs f sp) (hex:X.ex=[]) (hr:gB k X.A) (hx:Passes CX X E) (he:PE X (.Name x p) te):PE X (.Call (.Name x p) [] [] pos) (QK f sp E te):=by
 intro pins s σ H Q I h
 refine Uk (thn (he pins s σ H _ I h) fun u s1 ⟨v,H1,I1,r,ev,q⟩=>?_)
 subst ev
 obtain rfl:u=R5 f:=r
 have nex:∀ b,b ∉ X.ex:=fun b z=>by
  rw[hex] at z
  cases z
 obtain⟨o,fd,e1,e2,e3,e4⟩:=L.at_
 have e5:=I1.base.keep f o e1 e3 e4 (nex f)
 refine callWith_function_kw (o:=o) (fd:=fd) (evalArgs_kw_nil rfl (wpAny_evalAll_nil ⟨⟨e5,e2⟩,?_⟩))
 refine WR (Vl (L.run X.A X.stack s1 H1 Q E hr I1.env0 (fun b o e n hb=>I1.base.keep b o e n hb (nex b)) (fun b o e n=>⟨I1.base.any e n (nex b),I1.base.free b o e n (nex b)⟩) I1.base.frzs q) fun r2 s2 hq=>?_)
 cases r2 with
 | error e=>exact hx pins σ H1 s1 e s2 I1 hq
 | ok fl =>
  cases fl with
  | ret u=>exact I1.after hq
  | next=>exact SX hq
  | brk=>exact SX hq
  | cont=>exact SX hq
end
end L2
namespace L2
open PySem PySem.Spec PyProof.Rows
def TabOk (H:Hp) (P:Addr) (q:Str):Prop:=∃ ps,H P=some (.tbl ps)/\W7 ps.toList/\∀ pos cv,Xl pos ps.toList=some cv->∃ c oc u vs t,cv = .ref c/\H c=some (.frz oc u)/\oc.data = .fields vs/\vs[1]? = some (.str q t)
def fL (H H1:Hp):Prop:=∀ b o,(∀ ps,o≠.tbl ps)->H b=some o->H1 b=some o
def Hs (P:Addr) (H H1:Hp):Prop:=∀ b o,b≠P->H b=some o->H1 b=some o
theorem Hs.t {P:Addr} {q:Str} {H H1:Hp} (h:TabOk H P q) (a:Hs P H H1):fL H H1:=fun b o n e=>a b o (fun z=>by
 obtain⟨ps,e1,_⟩:=h
 rw[z,e1] at e
 exact n ps (RQ e).symm) e
theorem fL.refl (H:Hp):fL H H:=fun _ _ _ e=>e
theorem fL.trans {H H1 H2:Hp} (a:fL H H1) (b:fL H1 H2):fL H H2:=fun c o n e=>b c o n (a c o n e)
theorem bc.t {H H1:Hp} (a:bc H H1):fL H H1:=fun c o _ e=>a c o e
theorem TabOk.same {H H1:Hp} {P:Addr} {q:Str} (a:bc H H1) (h:TabOk H P q):TabOk H1 P q:=by
 obtain⟨ps,e,t,f⟩:=h
 refine⟨ps,a _ _ e,t,fun pos cv z=>?_⟩
 obtain⟨c,oc,u,vs,tk,e1,e2,e3⟩:=f pos cv z
 exact⟨c,oc,u,vs,tk,e1,a _ _ e2,e3⟩
theorem CJ {l:List Value} (h:W7 l):l=[]∨∃ i t j u d r,l = .int i t::.int j u::d::r/\W7 r:=by
 unfold W7 at h
 split at h
 ·exact .inl rfl
 ·exact .inr ⟨_,_,_,_,_,_,rfl,h⟩
 ·exact h.elim
theorem o6 {pos pos':Wi} {c cv:Value}:∀ (n:Nat) (l:List Value),l.length<=n->W7 l->(Xl pos' (l++[Te pos.line,Te pos.col,c])=some cv->Xl pos' l=some cv∨cv=c)/\W7 (l++[Te pos.line,Te pos.col,c])
 | 0,l,hn,h=>by
  cases Xf (Nat.le_zero.mp hn)
  refine⟨fun e=>?_,trivial⟩
  simp only[TF,Te,Xl] at e
  split at e
  ·exact .inr (RQ e).symm
  ·cases e
 | n+1,l,hn,h=>by
  rcases CJ h with rfl | ⟨i,t,j,u,d,r,rfl,hr⟩
  ·exact o6 n [] (Sd _) h
  ·obtain⟨h1,h2⟩:=o6 (pos:=pos) (pos':=pos') (c:=c) (cv:=cv) n r (by simp only[Rg] at hn; lia) hr
   refine⟨fun e=>?_,h2⟩
   simp only[Tg,Xl] at e ⊢
   split at e
   ·rename_i z
    rw[if_pos z]
    exact .inl e
   ·rename_i z
    rw[if_neg z]
    exact h1 e
theorem Ad {pos pos':Wi} {c cv:Value} (l:List Value) (h:W7 l) (e:Xl pos' (l++[Te pos.line,Te pos.col,c])=some cv):Xl pos' l=some cv∨cv=c:=(o6 l.length l (Rh _) h).1 e
theorem vD {pos:Wi} {c:Value} (l:List Value) (h:W7 l):W7 (l++[Te pos.line,Te pos.col,c]):=(o6 (pos':=pos) (cv:=c) l.length l (Rh _) h).2
section
variable {X:Cx} {pins:List (Addr × U3)} {σ:St} {H:Hp} {s:Ra} {c P:Addr} {params:YH} {body:Expr} {scope:Va} {lpos:Wi} {E:Value->Ra->Prop} {Q:Value->Ra->Prop}
theorem Gg (I:Inv X pins σ H s) (hT:TabOk H P (X.env.qual++"<lambda>")) (hcode:X.env.code = .ref c) (C:W.CodeHd X.base c P) (hB:X.base.BuiltinsAt X.mg P) (hdef:defaultsOf params X.env=([],[]))
  (hfr:∀ y∈scope.names,y.2 = .free->X.env.kindOf y.1=some .cell∨X.env.kindOf y.1=some .free)
  (h:∀ (f c':Addr) (ctv pm:Value) (cl:List (Str × Addr)) (H1:Hp) (s1:Ra),Inv X pins σ H1 s1->Hs P H H1->TabOk H1 P (X.env.qual++"<lambda>")->(∀ b,H b=none->b < s.heap.objs.size->H1 b=none)->(∀ b o,s.heap.get? b=some o->H b=none->s1.heap.get? b=some o) →
   s1.heap.get? f=some (Ym "<lambda>" (X.env.qual++"<lambda>") params body scope cl pm c' ctv)->H1 f=none->s.heap.objs.size<=f->(∃ oc u vs t,H1 c'=some (.frz oc u)/\oc.data = .fields vs/\vs[1]? = some (.str (X.env.qual++"<lambda>") t)) →
   (∀ n a,cl.lookup n=some a->X.env.cells.lookup n=some a)->(∀ y∈scope.names,y.2 = .free->∃ a,cl.lookup y.1=some a)->Q (.ref f) s1) :
  Rt (Ru X.prog X.w) X.A (UG (.Lambda params body scope lpos) X.env) Q E s:=by
 obtain⟨ps,eP,tr,am⟩:=hT
 obtain⟨cl,hcl,sub,all⟩:=qN (scope:=scope) (env:=X.env) fun y hy z=>I.ok.has _ (hfr y hy z)
 have hP:s.heap.get? P=some (PySem.W.tabObj ps):=I.hok P _ eP
 have hns:s.heap.Ns RM X.mg:=I.mod.glob.keeps I.bk
 have hgP:RM≠P:=fun z=>by
  obtain⟨o,es,ep,e,d,_⟩:=hns
  rw[z,hP] at e
  cases e
  cases d
 refine PySem.W.kla_eval hdef ?_
 cases hit:Xl lpos ps.toList with
 | some cv =>
  obtain⟨c',oc,u,vs,t,rfl,e1,e2,e3⟩:=am _ _ hit
  refine PySem.W.kla_makeFunctionHit hcl I.ok.glob hns hcode (C.keeps I.bk) hP tr hit (hB.keeps I.bk) fun ctv h' tk kp sz=>?_
  have kp':∀ b o,s.heap.get? b=some o->(h'.push (Ym "<lambda>" (X.env.qual++"<lambda>") params body scope cl ((X.mg "__name__").getD .none) c' ctv)).get? b=some o:=fun b o e=>Rb _ (kp b o e)
  refine h h'.objs.size c' ctv ((X.mg "__name__").getD .none) cl H _ (I.un (h':=h'.push (Ym "<lambda>" (X.env.qual++"<lambda>") params body scope cl ((X.mg "__name__").getD .none) c' ctv)) (t':=tk) (Un.kept kp') (I.hok.kept kp')) (fun _ _ _ e=>e) ⟨ps,eP,tr,am⟩ (fun _ n _=>n) (fun b o e _=>kp' b o e) ?_ (I.hok.fresh sz) sz ⟨oc,u,vs,t,e1,e2,e3⟩ sub all
  exact RK h' rfl
 | none =>
  refine PySem.W.kla_makeFunction hcl I.ok.glob hns hcode (C.keeps I.bk) hP tr hit hgP (hB.keeps I.bk) fun c' ctv h' tk kp l1 l2 cr hP'=>?_
  obtain⟨c2,oc,vs,t,ec,e1,e2,e3⟩:=cr
  cases ec
  have nP:c'≠P:=fun z=>by
   have:=Ro hP
   rw[← z] at this
   exact Sx _ (Rm this l1)
  have fr:=I.hok.fresh l1
  have lt:∀ b u,H b=some u->b < s.heap.objs.size:=fun b u e=>(I.hok b u e).lt
  have nb:∀ b o,s.heap.get? b=some o->b≠c':=fun b o e z=>by
   have:=Ro e
   rw[z] at this
   exact Sx _ (Rm this l1)
  have sz:s.heap.objs.size<=h'.objs.size:=RP l1 (Vn l2)
  generalize ho:Ym "<lambda>" (X.env.qual++"<lambda>") params body scope cl ((X.mg "__name__").getD .none) c' ctv=fo
  have kq:∀ b o,h'.get? b=some o->(h'.push fo).get? b=some o:=fun b o e=>Rb _ e
  have same:∀ b u,H b=some u->b≠P->upd (upd H P (.tbl (ps++#[Te lpos.line,Te lpos.col,.ref c']))) c' (.frz oc (.ext fun _=>True)) b=some u:=fun b u e n=>by
   rw[aR (fun z=>by rw[z,fr] at e; cases e),aR n]
   exact e
  have nt:∀ b u,H b=some u->(∀ ps,u≠.tbl ps)->b≠P:=fun b u e n z=>by
   rw[z,eP] at e
   exact n ps (RQ e).symm
  have un:Un X.fs [] H (upd (upd H P (.tbl (ps++#[Te lpos.line,Te lpos.col,.ref c']))) c' (.frz oc (.ext fun _=>True))) s.heap (h'.push fo):=by
   refine⟨fun b o e n _ _=>?_,fun b o e n _ _=>⟨o.slots,?_⟩,fun b o e n _=>?_,fun b o e _=>?_,fun b xs e=>same b _ e (nt b _ e (fun _ z=>nomatch z)),fun b o u e=>same b _ e (nt b _ e (fun _ z=>nomatch z)),fun b qs e=>?_⟩
   ·exact kq b o (kp b o (fun z=>by rw[z,eP] at n; cases n) e)
   ·exact kq b o (kp b o (fun z=>by rw[z,eP] at n; cases n) e)
   ·rw[aR (nb b o e),aR (fun z=>by rw[z,eP] at n; cases n)]
    exact n
   ·by_cases hb:b=P
    ·subst hb
     exact⟨_,kq _ _ hP'⟩
    ·exact⟨o,kq b o (kp b o hb e)⟩
   ·by_cases hb:b=P
    ·subst hb
     rw[eP] at e
     cases e
     exact⟨_,by rw[aR (Tw nP),aj]⟩
    ·exact⟨#[],by rw[same b _ e hb,Array.append_empty]⟩
  have hok:HOk X.prog X.w (upd (upd H P (.tbl (ps++#[Te lpos.line,Te lpos.col,.ref c']))) c' (.frz oc (.ext fun _=>True))) (h'.push fo):=fun b u e=>by
   by_cases hb:b=c'
   ·subst hb
    rw[aj] at e
    cases e
    exact⟨kq _ _ e1,trivial,⟨_,kq _ _ e1⟩,fun _ _ _ _=>trivial⟩
   ·rw[aR hb] at e
    by_cases hp:b=P
    ·subst hp
     rw[aj] at e
     cases e
     exact kq _ _ hP'
    ·rw[aR hp] at e
     refine (I.hok b u e).stay (fun d o hd q=>kq _ _ (kp d o (fun z=>?_) q)) (fun d q=>same d _ q (nt d _ q (fun _ z=>nomatch z))) fun d xs q=>same d _ q (nt d _ q (fun _ z=>nomatch z))
     rcases hd with rfl | hd
     ·exact hp z
     ·rw[z,eP] at hd
      cases hd
  have I1:=I.un (t':=tk) un hok
  have f0:upd (upd H P (.tbl (ps++#[Te lpos.line,Te lpos.col,.ref c']))) c' (.frz oc (.ext fun _=>True)) h'.objs.size=none:=by
   rw[aR (Tw (RX l2)),aR (Tw (RX (Rm (Ro hP) sz)))]
   exact I.hok.fresh sz
  refine h h'.objs.size c' ctv ((X.mg "__name__").getD .none) cl _ _ I1 (fun b o n e=>same b o e n) ⟨_,by rw[aR (Tw nP),aj],?_,fun pos cv z=>?_⟩ (fun b n l=>?_) (fun b o e n=>kq b o (kp b o (fun z=>by rw[z,eP] at n; cases n) e)) ?_ f0 sz ⟨oc,_,vs,t,aj,e2,e3⟩ sub all
  ·rw[Array.toList_append]
   exact vD _ tr
  ·rw[Array.toList_append] at z
   rcases Ad _ tr z with z | z
   ·obtain⟨c1,oc1,u1,vs1,t1,a1,a2,a3⟩:=am pos cv z
    exact⟨c1,oc1,u1,vs1,t1,a1,same _ _ a2 (nt _ _ a2 (fun _ z=>nomatch z)),a3⟩
   ·exact⟨c',oc,_,vs,t,z,aj,e2,e3⟩
  ·have n1:b≠c':=fun z=>Sx _ (Rm (show c' < s.heap.objs.size from z▸l) l1)
   have n2:b≠P:=fun z=>by rw[z,eP] at n; cases n
   rw[aR n1,aR n2]
   exact n
  ·rw[← ho]
   exact RK h' rfl
end
end L2
namespace L2
open PySem PySem.Spec PyProof.Rows
structure Ju (X:Cx) (scope:Va) (N:List Str) (cap:List Nat):Prop where
 sc:Nf N scope
 fr:∀ y∈scope.names,y.2 = .free->X.env.kindOf y.1=some .cell∨X.env.kindOf y.1=some .free
 len:cap.length=N.length
 at':∀ (k:Nat) (x:Str),N[k]? = some x->∃ i,cap[k]? = some i/\X.N[i]? = some x
def Kf (cap:List Nat) (σ:St):St:=cap.map fun i=>(σ[i]?).join
def OD (P:Addr) (q:Str) (cap:List Nat) (tw:Addr->(Hp->VK->XK->Prop)->VK->Hp->Prop) (te:XK->TE):TE:=fun σ H Q=>TabOk H P q/\∀ f H1,fL H H1->TabOk H1 P q->tw f (fun H2 Q2 E2=>te E2 (Kf cap σ) H2 Q2) Q H1
def Ph (Rl:Hp->Hp->Prop) (P:Addr) (q:Str) (cap:List Nat) (tw:Addr->(Hp->VK->XK->Prop)->VK->Hp->Prop) (te:XK->TE):TE:=fun σ H Q=>TabOk H P q/\∀ f H1,Rl H H1->TabOk H1 P q->tw f (fun H2 Q2 E2=>te E2 (Kf cap σ) H2 Q2) Q H1
section
variable {X:Cx} {c P fW:Addr} {x qual n:Str} {st:Stmt} {fd:Tp} {N NL:List Str} {cap:List Nat} {k:Nat} {params:YH} {body:Expr} {scope:Va} {lpos p pos:Wi} {te:XK->TE} {tw:Addr->(Hp->VK->XK->Prop)->VK->Hp->Prop}
theorem Km {Rl:Hp->Hp->Prop} (hR:∀ {H H1:Hp},TabOk H P (X.env.qual++"<lambda>")->Hs P H H1->Rl H H1) (F:Fun X.K x qual st fW fd) (S:aV N [n] (aB st)) (hr:gB (k+1) X.A) (hg:Gl X x) (hm:X.mg x=some (.ref fW)) (L:Ju X scope NL cap)
  (hcode:X.env.code = .ref c) (C:W.CodeHd X.base c P) (hB:X.base.BuiltinsAt X.mg P)
  (hp:∀ (f:Addr) (cd:Value) (cl:List (Str × Addr)) (A:Sh) (outer:List WQ) (s:Ra) (H:Hp) (E:XK) (j:Nat),k=j+2->gB j (A.deeper (W.envX (X.env.qual++"<lambda>") scope s.heap.objs.size f cd cl))->PE (wX (XL X.prog X.w) X.prog X.w X.K X.mg X.base NL (X.env.qual++"<lambda>") scope f cd cl A outer s H E) body (te E))
  (ht:∀ (f:Addr) (cdv:Value) (A:Sh) (outer:List WQ) (s:Ra) (H:Hp) (Q:VK) (j:Nat) (sp:Hp->VK->XK->Prop),k=j+1->gB k (A.deeper (envOfC qual (aB st) s.heap.objs.size fW cdv))->Lx (XL X.prog X.w) X.prog X.w X.K X.mg X.base k s H (frs outer) f sp->tw f sp Q H →
   ∃ t,PSs (xm CX0 X.prog X.w X.K X.mg X.base N qual (aB st) fW cdv A outer s H E0) (bO st) t/\t { nx:=fun _ H'=>Q .non H',rt:=Q } (start N [.ref f]) H)
  (hdef:defaultsOf params X.env=([],[]):=by rfl) (hla:∀ (pm cd ctv:Value) (cl:List (Str × Addr)),VM (W.kla_fn "<lambda>" (X.env.qual++"<lambda>") params body scope cl pm cd ctv) ⟨[],[]⟩=pure []:=by intros; rfl)
  (hb:∀ (kV doc pm:Value) (an:Option Addr) (cdv ct:Value) (u:Value),VM (Yv x qual (cX st) (bO st) (aB st) .none kV doc pm an cdv ct) ⟨[u],[]⟩=pure [(n,u)]:=by intros; rfl) (hk:k=(k - 2)+2:=by rfl)
  (hdb:(x == ("__debug__" : Str))=false:=by decide):PE X (.Call (.Name x p) [.Lambda params body scope lpos] [] pos) (Ph Rl P (X.env.qual++"<lambda>") cap tw te):=by
 intro pins s σ H Q I ⟨hT,h⟩
 refine Uk (m7 I hg hm ?_ hdb)
 refine Wq (h₀:=X.base) I.ok.mod.kin F.kp ?_
 refine Zg (Gg I hT hcode C hB hdef L.fr fun f c' ctv pm cl H1 s1 I1 sm tb fre kp ef nf lf cr sub all=>Zy ⟨I1.kIn,?_⟩)
 have nfs:f ∉ frs X.stack:=fun z=>by
  obtain⟨_,o,ho,_⟩:=I.stack.mem z
  exact Sx _ (Rm (Ro ho) lf)
 have LB:Lx (XL X.prog X.w) X.prog X.w X.K X.mg X.base k s1 H1 (frs X.stack) f fun H2 Q2 E2=>te E2 (Kf cap σ) H2 Q2:=by
  refine⟨⟨_,_,ef,rfl,nf,nfs⟩,fun A outer s3 H3 Q3 E3 room e3 k1 k2 k3 sp=>?_⟩
  obtain⟨oc,u,vs,t,f1,f2,f3⟩:=cr
  have cr3:s3.heap.CodeRec (.ref c') (X.env.qual++"<lambda>"):=⟨c',oc,vs,t,rfl,(e3.hok c' _ (k3 _ _ _ f1)).1,f2,f3⟩
  have room':gB ((k - 2)+1+1) A:=by rw[hk] at room; exact room
  have cel:∀ y a v,cl.lookup y=some a->s1.heap.IsCell a v->s3.heap.IsCell a v/\H3 a=none:=fun y a v e ⟨o,ho,hd⟩=>by
   obtain⟨⟨sl,e1⟩,e2⟩:=k2 a o ho (I1.freeC y a (sub y a e))
   exact⟨⟨_,e1,hd⟩,e2⟩
  refine Jv (N:=NL) room' e3 (k1 f _ ef nf nfs) cr3 (hla _ _ _ _) L.sc ⟨fun y z a e1 e2=>I.ok.inj y z a (sub y a e1) (sub z a e2),all,fun y a e=>?_,fun i y v e1 e2=>?_,?_⟩ (hp f (.ref c') cl A outer s3 H3 E3 (k - 2) hk ((room'.mono (Ud _)).deeper _)) sp
  ·obtain⟨v,z⟩:=I1.cell y a (sub y a e)
   obtain⟨z1,z2⟩:=cel y a v e z
   exact⟨⟨v,z1⟩,z2⟩
  ·unfold Kf at e2
   rw[Rz] at e2
   obtain⟨j,hj,hN⟩:=L.at' i y e1
   rw[hj] at e2
   have e4:(σ[j]?).join=some v:=by simpa using e2
   have e5:σ[j]? = some (some v):=by
    cases q:σ[j]? with
    | none=>rw[q] at e4; cases e4
    | some a=>rw[q] at e4; exact congrArg some e4
   have yf:=L.sc.fr y (RL e1)
   have kd:=L.fr (y,.free) (Ti yf) rfl
   obtain⟨m,hn,hl⟩:=I1.loc
   obtain⟨u,r,lk⟩:=hl j y v hN e5 (kd.elim (fun z=>.inr (.inl z)) fun z=>.inr (.inr z))
   obtain⟨a,ha⟩:=all (y,.free) (Ti yf) rfl
   rcases lk with⟨z,_⟩ | ⟨_,a',z1,z2⟩
   ·rcases kd with w | w <;> (rw[w] at z; cases z)
   ·have:=sub y a ha
    rw[z1] at this
    cases this
    exact⟨a,u,ha,(cel y a _ ha z2).1,r⟩
  ·unfold Kf
   rw[Q8,L.len]
 have hq:=h f H1 (hR hT sm) tb
 refine WR (Vl (Oh (CX:=CX0) (k:=k) (Q:=Q) (E:=E0) F S hr I1.env0 (hb · · · · · · (.ref f)) (vs:=[.ref f]) (us:=[.ref f]) (.cons rfl .nil) rfl fun cdv=>ht f cdv X.A X.stack s1 H1 Q (k - 2+1) _ hk (hr.deeper _) LB hq) fun r s2 z=>?_)
 cases r with
 | error e=>exact SX z
 | ok fl =>
  cases fl with
  | ret u=>exact I1.after z
  | next=>exact SX z
  | brk=>exact SX z
  | cont=>exact SX z
theorem Nh (F:Fun X.K x qual st fW fd) (S:aV N [n] (aB st)) (hr:gB (k+1) X.A) (hg:Gl X x) (hm:X.mg x=some (.ref fW)) (L:Ju X scope NL cap)
  (hcode:X.env.code = .ref c) (C:W.CodeHd X.base c P) (hB:X.base.BuiltinsAt X.mg P)
  (hp:∀ (f:Addr) (cd:Value) (cl:List (Str × Addr)) (A:Sh) (outer:List WQ) (s:Ra) (H:Hp) (E:XK) (j:Nat),k=j+2->gB j (A.deeper (W.envX (X.env.qual++"<lambda>") scope s.heap.objs.size f cd cl))->PE (wX (XL X.prog X.w) X.prog X.w X.K X.mg X.base NL (X.env.qual++"<lambda>") scope f cd cl A outer s H E) body (te E))
  (ht:∀ (f:Addr) (cdv:Value) (A:Sh) (outer:List WQ) (s:Ra) (H:Hp) (Q:VK) (j:Nat) (sp:Hp->VK->XK->Prop),k=j+1->gB k (A.deeper (envOfC qual (aB st) s.heap.objs.size fW cdv))->Lx (XL X.prog X.w) X.prog X.w X.K X.mg X.base k s H (frs outer) f sp->tw f sp Q H →
   ∃ t,PSs (xm CX0 X.prog X.w X.K X.mg X.base N qual (aB st) fW cdv A outer s H E0) (bO st) t/\t { nx:=fun _ H'=>Q .non H',rt:=Q } (start N [.ref f]) H)
  (hdef:defaultsOf params X.env=([],[]):=by rfl) (hla:∀ (pm cd ctv:Value) (cl:List (Str × Addr)),VM (W.kla_fn "<lambda>" (X.env.qual++"<lambda>") params body scope cl pm cd ctv) ⟨[],[]⟩=pure []:=by intros; rfl)
  (hb:∀ (kV doc pm:Value) (an:Option Addr) (cdv ct:Value) (u:Value),VM (Yv x qual (cX st) (bO st) (aB st) .none kV doc pm an cdv ct) ⟨[u],[]⟩=pure [(n,u)]:=by intros; rfl) (hk:k=(k - 2)+2:=by rfl)
  (hdb:(x == ("__debug__" : Str))=false:=by decide):PE X (.Call (.Name x p) [.Lambda params body scope lpos] [] pos) (OD P (X.env.qual++"<lambda>") cap tw te):=Km (fun h s=>s.t h) F S hr hg hm L hcode C hB hp ht hdef hla hb hk hdb
end
end L2
namespace L2
open PySem PySem.Spec PyProof.Rows
structure Aw (mg:Str->Option Value) (c T:Addr) (base:Tf):Prop where
 code:PySem.W.CodeHd base c T
 blt:base.BuiltinsAt mg T
theorem Br {P:RV} {w:Sv} {K:R7} {mg mb:Str->Option Value} {k:Nat} {fa a c T:Addr} {fd:Tp} {x q:Str} {sp:Sp} {s1:Ra} {vs:List Value} {ns:List Int}
  (KX:K.In s1.heap) (hG:s1.heap.Ns RM mg) (hB:s1.heap.Ns builtinsNs mb) (hbb:∀ x:Str,x≠"__name__"->mb x=Tj x) (hlim:s1.heap.NoLimit) (hg:s1.gens = #[])
  (ha:s1.heap.get? a=some { cls:=.type "list",data:=.seq vs.toArray }) (hi:Ue vs ns) (hl:ns.length<=sizeLine) (hr:gB k Zm)
  (hT:s1.heap.get? T=some (W.tabObj #[])) (hC:W.CodeHd s1.heap c T) (hbm:s1.heap.BuiltinsAt mg T) (hno:W.noTabs K=true)
  (F:∀ base:Tf,K.In base->base.Ns RM mg->Aw mg c T base->dB P w K mg base CX0 k fa fd [x] sp) (hbind:∀ (s:Ra) (u:Value),Yg s fd ⟨[u],[]⟩ [(x,u)])
  (hsp:∀ H:Hp,TabOk H T q->SqL K H a (ns.map V.int)->sp [.ref a] H (fun v _=>v = .bl true) fun _ _ _=>False) :
  T5 (Ru P w) Zm (.call (.ref fa) ⟨[.ref a],[]⟩) (fun r s2=>r = .ok (.ret (.bool true))/\OldK s1.heap s2.heap/\s2.os=s1.os/\Xx s2.gens) s1:=by
 have aT:a≠T:=fun z=>by
  rw[z,hT] at ha
  cases ha
 have rv:=lU hi
 have nl:=hi.length
 have key:∀ Z:Hp,(∀ b u,Z b=some u->b=a/\u = .frz { cls:=.type "list",data:=.seq vs.toArray } (.lst (ns.map V.int)))->SqL K Z a (ns.map V.int)->(Z a≠none->K.lookup a=none) →
   T5 (Ru P w) Zm (.call (.ref fa) ⟨[.ref a],[]⟩) (fun r s2=>r = .ok (.ret (.bool true))/\OldK s1.heap s2.heap/\s2.os=s1.os/\Xx s2.gens) s1:=by
  intro Z hZ hS hK
  have H1:∀ b,b≠T->upd Z T (.tbl #[]) b=Z b:=fun b n=>aR n
  have hin:∀ {b:Addr} {o:U3},s1.heap.get? b=some o->b≠T->(Z b=none)->(Hm s1.heap (upd Z T (.tbl #[]))).get? b=some o:=fun e n z=>FQ e ((H1 _ n).trans z)
  have seqOnly:∀ {b:Addr} {o:U3},s1.heap.get? b=some o->(∀ its n,o.data≠.seq its n)->Z b=none:=fun {b o} e d=>by
   cases z:Z b with
   | none=>rfl
   | some u =>
    obtain⟨rfl,_⟩:=hZ b u z
    rw[ha] at e
    cases e
    exact absurd rfl (d _ _)
  have notT:∀ {b:Addr} {o:U3},s1.heap.get? b=some o->(∀ vs,o.data≠.fields vs)->b≠T:=fun {b o} e d z=>by
   rw[z,hT] at e
   cases e
   exact d _ rfl
  have nsK:∀ {b:Addr} {m:Str->Option Value},s1.heap.Ns b m->(Hm s1.heap (upd Z T (.tbl #[]))).Ns b m:=fun {b m} ⟨o,es,ep,e,d,r⟩ =>
   ⟨o,es,ep,hin e (notT e fun _ z=>by rw[d] at z; cases z) (seqOnly e fun _ _ z=>by rw[d] at z; cases z),d,r⟩
  have kb:K.In (Hm s1.heap (upd Z T (.tbl #[]))):=fun b o e=>hin (KX b o e) (fun z=>by
   subst z
   have e2:=KX _ _ e
   rw[hT] at e2
   cases e2
   have:=List.all_eq_true.mp hno (_,PySem.W.tabObj #[]) (PySem.W.mem_of_lookupK e)
   exact absurd (show false=true from this) Rv) (by
   cases z:Z b with
   | none=>rfl
   | some u =>
    obtain⟨rfl,_⟩:=hZ b u z
    rw[hK (by rw[z]; simp)] at e
    cases e)
  have hd:Aw mg c T (Hm s1.heap (upd Z T (.tbl #[]))):=by
   obtain⟨o,ws,file,tf,flags,tg,inF,text,tt,e1,e2,e3,e4,r⟩:=hC
   obtain⟨bm,ob,b1,b2,b3,b4,b5,b6,b7,b8⟩:=hbm
   refine⟨⟨o,ws,file,tf,flags,tg,inF,text,tt,hin e1 (fun z=>?_) (seqOnly e1 fun _ _ z=>by rw[e3] at z; cases z),e2,e3,e4,r⟩,⟨bm,ob,b1,b2,b3,b4,hin b5 b4 (seqOnly b5 fun _ _ z=>by rw[b8] at z; cases z),b6,b7,b8⟩⟩
   rw[z,hT] at e1
   cases e1
   cases e2
  have hok:HOk P w (upd Z T (.tbl #[])) s1.heap:=fun b u e=>by
   by_cases hb:b=T
   ·subst hb
    rw[aj] at e
    cases e
    exact hT
   ·rw[aR hb] at e
    obtain⟨rfl,rfl⟩:=hZ b u e
    exact⟨ha,by rw[Q8]; exact hl,vs,_,rv,ha⟩
  have e0:Ff P w K mg (Hm s1.heap (upd Z T (.tbl #[]))) Zm [] s1 (upd Z T (.tbl #[])) :=
   ⟨rfl,⟨kb,nsK hG,⟨mb,nsK hB,hbb⟩,let ⟨mc,m1,m2⟩:=hlim; ⟨mc,nsK m1,m2⟩⟩,fun b o e=>KJ e,Nat.le_of_eq (Bf _ _),trivial,(fun b hb=>absurd (show b∈([]:List Addr) from hb) T7),hok,.of_eq hg⟩
  have hS1:SqL K (upd Z T (.tbl #[])) a (ns.map V.int):=by
   rcases hS with (h | ⟨o,h⟩) | h
   ·exact .inl (.inl ((H1 a aT).trans h))
   ·exact .inl (.inr ⟨o,(H1 a aT).trans h⟩)
   ·exact .inr h
  refine Vl ((F _ kb (nsK hG) hd).run Zm [] s1 _ ⟨[.ref a],[]⟩ [.ref a] [.ref a] _ _ hr e0 (hbind s1 (.ref a)) (.cons rfl .nil) (hsp _ ⟨#[],aj,trivial,fun pos cv z=>by cases z⟩ hS1)) fun r s2 z=>?_
  cases r with
  | error e=>exact SX z
  | ok fl =>
   cases fl with
   | next=>exact SX z
   | brk=>exact SX z
   | cont=>exact SX z
   | ret u =>
    obtain⟨v,H2,os,bare,un,hok2,r2,rfl⟩:=z
    obtain rfl:u=Y7 true:=r2
    have kept:∀ b o,s1.heap.get? b=some o->b≠T->s2.heap.get? b=some o:=fun b o e n=>by
     cases z:Z b with
     | none=>exact un.keep b o e ((H1 b n).trans z) (fun y=>nomatch y) fun y=>nomatch y
     | some u =>
      have z1:=(H1 b n).trans z
      obtain⟨rfl,rfl⟩:=hZ b u z
      obtain⟨e2,_⟩:=hok2 _ _ (un.frzs _ _ _ z1)
      rw[ha] at e
      cases e
      exact e2
    obtain⟨more,et⟩:=un.tbls T #[] aj
    have gT:s2.heap.get? T=some (PySem.W.tabObj (#[]++more)):=hok2 T _ et
    refine⟨rfl,⟨fun b o e=>?_,fun b o e=>?_⟩,os,bare⟩
    ·by_cases hb:b=T
     ·subst hb
      rw[hT] at e
      cases e
      exact .inr (.inl ⟨(hC.tab hT).isCodeTable,rfl,#[],more,rfl,gT⟩)
     ·exact .inl (kept b o e hb)
    ·by_cases hb:b=T
     ·subst hb
      exact⟨_,gT⟩
     ·exact⟨o,kept b o e hb⟩
 cases hk:K.lookup a with
 | some o =>
  have e:=KX a o hk
  rw[ha] at e
  cases e
  exact key (fun _=>none) (fun b u z=>by cases z) (.inr ⟨_,vs.toArray,_,hk,rfl,rfl,rfl,by rw[Ry,nl]; exact hl,by simpa using rv⟩) fun z=>absurd rfl z
 | none =>
  exact key (upd (fun _=>none) a (.frz { cls:=.type "list",data:=.seq vs.toArray } (.lst (ns.map V.int)))) (fun b u z=>by
   by_cases hb:b=a
   ·subst hb
    rw[aj] at z
    exact⟨rfl,(RQ z).symm⟩
   ·rw[aR hb] at z
    cases z) (.inl (.inr ⟨{ cls:=.type "list",data:=.seq vs.toArray },aj⟩)) fun _=>hk
theorem Fo {l:W.OpenLaw} {n k:Nat} {qp:RV} {loose:List Str} {XP:(Str->Option Value)->Tf->Prop} {YP:Sv->Tf->Prop} {d:DefRec} {K:Params->R7} {sp:Sv->Sp} {x q:Str} {T:Addr}
  (hn:l.most=some n) (hn2:n<=sizeLine) (hdf:d.params.defaults=[]) (hr:gB k Zm)
  (hY:∀ (w:Sv) (h:Tf),YP w h->(K w.params).In h/\h.get? T=some (W.tabObj #[])) (hno:∀ w:Sv,W.noTabs (K w.params)=true)
  (F:∀ (w:Sv) (mg:Str->Option Value) (fa:Addr) (h:Tf),(K w.params).In h->h.Ns RM mg->mg d.name=some (.ref fa) →
   ∃ (fd:Tp) (c:Addr),PySem.W.codeHdIn (K w.params) c T=true/\(∀ (s:Ra) (u:Value),Yg s fd ⟨[u],[]⟩ [(x,u)]) ∧
    ∀ base:Tf,(K w.params).In base->base.Ns RM mg->Aw mg c T base->dB l.prog w (K w.params) mg base CX0 k fa fd [x] (sp w))
  (hsp:∀ (w:Sv) (H:Hp) (a:Addr) (ns:List Int),ns.length<=n->TabOk H T q->SqL (K w.params) H a (ns.map V.int)->sp w [.ref a] H (fun v _=>v = .bl true) fun _ _ _=>False) :
  PySem.W.WalkO qp loose XP YP l.row.toRowW d [] (fun f vs=>PySem.call f vs):=by
 refine Att.wY hn hdf fun w s₀ s₁ mg mb fa o pm cd doc a vs ns G Y ho hd hcd hmg hobj hints hlen hg=>?_
 obtain⟨KX,hT⟩:=hY w _ Y
 obtain⟨fd,c,hc,hb,hF⟩:=F w mg fa _ KX G.T.g hmg
 have hC:=PySem.W.codeHd_of_K KX hc
 have hbm:s₁.heap.BuiltinsAt mg T:=by
  obtain⟨bm,ob,b1,b2,b3,b4,b5,b6⟩:=G.T.bmain
  refine⟨bm,ob,b1,b2,fun z=>?_,fun z=>?_,b3,b4,b5,b6⟩
  ·obtain⟨og,es,ep,e,d,_⟩:=G.T.g
   rw[z,e] at b3
   cases b3
   rw[d] at b6
   cases b6
  ·rw[z,hT] at b3
   cases b3
   cases b4
 exact Br KX G.T.g G.T.b G.T.builtins G.T.nolimit hg hobj hints (RP hlen hn2) hr hT hC hbm (hno w) hF hb fun H h1 h2=>hsp w H a ns hlen h1 h2
end L2
namespace L2
open PySem PySem.Spec PyProof.Rows
theorem Hu {X:Cx} {op:Operator} {r:R2} (h:OpR X (ZJ op) r):PIp X op r:=h
structure Dx (P:RV) (w:Sv) (K:RD) (mg:Str->Option Value) (base:Tf) (x:Str) (k:Nat) (ps:List Str) (sp:Sp):Prop where
 ex:∃ (f:Addr) (fd:Tp),dB P w K mg base (XL P w) k f fd ps sp/\mg x=some (.ref f)/\Ve K (.ref f)=true/\Binds K fd ps []
section
variable {X:Cx} {k j:Nat} {x:Str} {ps:List Str} {sp:Sp} {p pos:Wi} {e:Expr} {es:List Expr} {t:TA} {E:XK}
theorem my (D:Dx X.prog X.w X.K X.mg X.base x k ps sp) (hr:gB j X.A) (hx:Passes (XL X.prog X.w) X E) (ha:PA X (e::es) t) (hk:k<=j:=by first | decide | exact Rh _ | lia) (hg:Gl X x:=by rfl)
  (hdb:(x == ("__debug__" : Str))=false:=by decide) (he:R9 (e::es) X.env=(false,UG e X.env)::R9 es X.env:=by rfl) (hpl:(We pos (R9 es X.env)).any (·.1)=false:=by rfl) :
  PE X (.Call (.Name x p) (e::es) [] pos) (yd sp [] E t):=by
 obtain⟨f,fd,F,hm,hkp,hb⟩:=D.ex
 exact CV F (hr.mono hk) hg hm hkp hb .nil hx ha hdb he hpl
end
section
variable {P:RV} {w:Sv} {K:R7} {mg:Str->Option Value} {base:Tf}
theorem Fun.okX {x qual:Str} {st:Stmt} {f:Addr} {fd:Tp} {N ps:List Str} {k:Nat} {sp:Sp} (F:Fun K x qual st f fd) (S:aV N ps (aB st)) (len:∀ vs H Q E,sp vs H Q E->vs.length=ps.length)
  (hb:∀ (cdv:Value) (A:Sh) (outer:List WQ) (s:Ra) (H:Hp) (vs:List V) (Q:VK) (E:XK),gB k (A.deeper (envOfC qual (aB st) s.heap.objs.size f cdv))->sp vs H Q E →
   ∃ t,PSs (xm (XL P w) P w K mg base N qual (aB st) f cdv A outer s H E) (bO st) t/\t { nx:=fun _ H2=>Q .non H2,rt:=Q } (start N vs) H):dB P w K mg base (XL P w) (k+1) f fd ps sp:=by
 obtain⟨oc,od,kV,doc,pm,an,cdv,ct,osl,rfl,lk,hc⟩:=F.ex
 exact JC lk hc S len fun A outer s H vs Q E hr hs=>hb cdv A outer s H vs Q E hr hs
end
theorem Mz {X:Cx} {scope:Va} {NL:List Str} {cap:List Nat} (c:jP X scope NL cap) (co:scope.isCoroutine=false:=by rfl) (gen:scope.isGenerator=false:=by rfl):Ju X scope NL cap :=
 ⟨⟨c.kind,co,gen,c.cell,fun x hx=>let ⟨_,hi⟩:=List.getElem?_of_mem hx; let ⟨_,_,_,z⟩:=c.at' _ x hi; z⟩,c.fr,c.len,fun k x e=>let ⟨i,a,b,_⟩:=c.at' k x e; ⟨i,a,b⟩⟩
structure Ol (K:RD) (x qual:Str) (st:Stmt) (f:Addr) (fd:Tp) (c:Addr):Prop where
 ex:∃ (oc:Value) (od:Option Addr) (kV doc pm:Value) (an:Option Addr) (ct:Value) (osl:Array (Option Value)),
  fd=Vw x qual (cX st) (bO st) (aB st) .none kV doc pm an (.ref c) ct/\K.lookup f=some ⟨oc,od,.func fd,osl⟩/\WD K (.ref c) qual=true
theorem Ol.ok {P:RV} {w:Sv} {K:R7} {mg:Str->Option Value} {base:Tf} {x qual:Str} {st:Stmt} {f c:Addr} {fd:Tp} {N ps:List Str} {k:Nat} {sp:Sp} (F:Ol K x qual st f fd c) (S:aV N ps (aB st)) (len:∀ vs H Q E,sp vs H Q E->vs.length=ps.length)
  (hb:∀ (A:Sh) (outer:List WQ) (s:Ra) (H:Hp) (vs:List V) (Q:VK) (E:XK),gB k (A.deeper (envOfC qual (aB st) s.heap.objs.size f (.ref c)))->sp vs H Q E →
   ∃ t,PSs (xm CX0 P w K mg base N qual (aB st) f (.ref c) A outer s H E).nox (bO st) t/\t { nx:=fun _ H2=>Q .non H2,rt:=Q } (start N vs) H):dB P w K mg base CX0 (k+1) f fd ps sp:=by
 obtain⟨oc,od,kV,doc,pm,an,ct,osl,rfl,lk,hc⟩:=F.ex
 refine JC lk hc S len fun A outer s H vs Q E hr hs=>?_
 obtain⟨t,h1,h2⟩:=hb A outer s H vs Q E hr hs
 exact⟨t,h1.nox,h2⟩
end L2
namespace L2
open PySem PySem.Spec PyProof.Rows
section
variable {X:Cx} {k:Nat}
theorem J8 {pins:List (Addr × U3)} {s:Ra} {σ:St} {H:Hp} {a b:Addr} {xs ys:List V} {ds es:List Dm} {n:Nat} (I:Inv X pins σ H s) (ha:H a=some (.lst xs)) (hb:H b=some (.lst ys)) (ra:eN H xs ds) (rb:eN H ys es) (hd:jb ds<=n) (hu:X.A.units+1+n < cLine) :
  ∃ its its':List Value,s.heap.IsList a its.toArray/\s.heap.IsList b its'.toArray/\its.toArray.size=ds.length/\its'.toArray.size=es.length/\∀ j (h1:j < its.toArray.size) (h2:j < its'.toArray.size),X5 X.A.in1 s its.toArray[j] its'.toArray[j] (eqD (ds.getD j .non) (es.getD j .non)):=by
 obtain⟨its,vl,p,_⟩:=I.list (SqL.of ha)
 obtain⟨its',vl',p',_⟩:=I.list (SqL.of hb)
 refine⟨its,its',p.isList,p'.isList,by rw[Ry,← vl.length,ra.length],by rw[Ry,← vl'.length,rb.length],fun j h1 h2=>?_⟩
 have h1:j < its.length:=by simpa using h1
 have h2:j < its'.length:=by simpa using h2
 obtain⟨v1,_,r1,p1⟩:=ir ra vl h1
 obtain⟨v2,_,r2,p2⟩:=ir rb vl' h2
 rw[TQ,TQ]
 refine yK I n _ _ v1 v2 _ _ _ ?_ (show X.A.units+1+n < cLine from hu) p1 p2 r1 r2
 have:=o8 (ds:=ds) (j:=j) (by have:=ra.length; have:=vl.length; lia)
 lia
theorem G8 {ds es:List Dm} (h:ds.length=es.length):(Uc ds.length).all (fun j=>eqD (ds.getD j .non) (es.getD j .non))=tV ds es:=by
 have:=ik ds es
 rw[show min ds.length es.length=ds.length by lia,show (ds.length == es.length)=true by simpa using h,Bool.and_true] at this
 exact this
def J9 (n:Nat):R2:=fun x y H Q=>∃ (a b:Addr) (xs ys:List V) (ds es:List Dm),x = .ref a/\y = .ref b/\H a=some (.lst xs)/\H b=some (.lst ys)/\eN H xs ds/\eN H ys es/\jb ds<=n/\Q (.bl (!tV ds es)) H
theorem Dj {n:Nat} (hr:gB k X.A) (hn:n<=50):OpR X (T6 .NotEq) (J9 n):=by
 intro pins s σ H x y v u Q I rx ry h
 obtain⟨a,b,xs,ys,ds,es,rfl,rfl,ha,hb,ra,rb,hd,q⟩:=h
 cases rx
 cases ry
 have hu:=hr.units
 obtain⟨its,its',p,p',e1,e2,ea⟩:=J8 I ha hb ra rb hd (by lia)
 by_cases hl:ds.length=es.length
 ·have r:=SeqAt.RcNeAt.lists (e:=fun j=>eqD (ds.getD j .non) (es.getD j .non)) p p' (by lia) hr.pQ ea
  rw[e1,G8 hl] at r
  exact r X.prog X.w X.xe _ ⟨.bl _,H,I,rfl,q⟩
 ·have r:=SeqAt.RcNeAt.lists_lengths p p' (by rw[e1,e2]; simpa using hl) hr.pQ
  rw[zH hl] at q
  exact r X.prog X.w X.xe _ ⟨.bl _,H,I,rfl,q⟩
theorem JB {n:Nat} (hr:gB k X.A) (hn:n<=50):OpR X (T6 .In) (Mg n false):=by
 intro pins s σ H x y v u Q I rx ry h
 obtain⟨d,p,ys,es,rp,rfl,hp,re,hd,q⟩:=h
 cases ry
 have hu:=hr.units
 obtain⟨its,f,t,ea,e⟩:=G3 I rx rp hp re hd (by lia)
 exact SeqAt.in_listAt f t ea ⟨.bl _,H,I,rfl,by rw[e]; exact q⟩
end
end L2
namespace L2
open PySem PySem.Spec PyProof.Rows
inductive HasDef (K:RD) (x:Str) (st:Stmt) (f:Addr):Prop where
 | mk {od an:Option Addr} {sl:Array (Option Value)} {oc kV dc pm cd ct:Value} (a:PySem.W.nsIn K RM x=some (some (.ref f))) (l:K.lookup f=some ⟨oc,od,.func (Vw x x (cX st) (bO st) (aB st) .none kV dc pm an cd ct),sl⟩) (c:WD K cd x=true) (k:Ve K (.ref f)=true):HasDef K x st f
section
variable {P:RV} {w:Sv} {K:R7} {mg:Str->Option Value} {base h:Tf} {x:Str} {st:Stmt} {f:Addr} {ps:List Str} {sp:Sp} {k:Nat}
theorem HasDef.name (q:HasDef K x st f) (X:K.In h) (G:h.Ns RM mg):mg x=some (.ref f):=by
 obtain⟨a,l,c,k⟩:=q
 exact XD X G a
theorem HasDef.df (q:HasDef K x st f) (X:K.In h) (G:h.Ns RM mg) (hb:∀ fd,Fun K x x st f fd->Binds K fd ps []) (ok:∀ fd,Fun K x x st f fd->dB P w K mg base CX0 k f fd ps sp):Df P w K mg base x k ps sp:=by
 obtain⟨a,l,c,k⟩:=q
 have F:=yX l c k
 exact⟨⟨_,_,ok _ F,XD X G a,k,hb _ F⟩⟩
theorem QC {α:Type}:∀ {us:List α},us.length=1->∃ x0,us=[x0]
 | [x0],_=>⟨x0,rfl⟩
theorem Qs {α:Type}:∀ {us:List α},us.length=2->∃ x0 x1,us=[x0,x1]
 | [x0,x1],_=>⟨x0,x1,rfl⟩
theorem QG {α:Type}:∀ {us:List α},us.length=3->∃ x0 x1 x2,us=[x0,x1,x2]
 | [x0,x1,x2],_=>⟨x0,x1,x2,rfl⟩
theorem Q5 {α:Type}:∀ {us:List α},us.length=4->∃ x0 x1 x2 x3,us=[x0,x1,x2,x3]
 | [x0,x1,x2,x3],_=>⟨x0,x1,x2,x3,rfl⟩
theorem QT {α:Type}:∀ {us:List α},us.length=5->∃ x0 x1 x2 x3 x4,us=[x0,x1,x2,x3,x4]
 | [x0,x1,x2,x3,x4],_=>⟨x0,x1,x2,x3,x4,rfl⟩
theorem bind1 {q a0:Str} (h:∀ (kV doc pm:Value) (an:Option Addr) (cdv ct x0:Value),VM (Yv x q (cX st) (bO st) (aB st) .none kV doc pm an cdv ct) ⟨[x0],[]⟩=pure [(a0,x0)]:=by intros; rfl):∀ fd,Fun K x q st f fd->Binds K fd [a0] []:=fun _ F=>F.binds fun kV doc pm an cdv ct us hl=>by
 obtain⟨x0,rfl⟩:=QC hl
 exact h kV doc pm an cdv ct x0
theorem cU {q a0 a1:Str} (h:∀ (kV doc pm:Value) (an:Option Addr) (cdv ct x0 x1:Value),VM (Yv x q (cX st) (bO st) (aB st) .none kV doc pm an cdv ct) ⟨[x0,x1],[]⟩=pure [(a0,x0),(a1,x1)]:=by intros; rfl):∀ fd,Fun K x q st f fd->Binds K fd [a0,a1] []:=fun _ F=>F.binds fun kV doc pm an cdv ct us hl=>by
 obtain⟨x0,x1,rfl⟩:=Qs hl
 exact h kV doc pm an cdv ct x0 x1
theorem lB {q a0 a1 a2:Str} (h:∀ (kV doc pm:Value) (an:Option Addr) (cdv ct x0 x1 x2:Value),VM (Yv x q (cX st) (bO st) (aB st) .none kV doc pm an cdv ct) ⟨[x0,x1,x2],[]⟩=pure [(a0,x0),(a1,x1),(a2,x2)]:=by intros; rfl):∀ fd,Fun K x q st f fd->Binds K fd [a0,a1,a2] []:=fun _ F=>F.binds fun kV doc pm an cdv ct us hl=>by
 obtain⟨x0,x1,x2,rfl⟩:=QG hl
 exact h kV doc pm an cdv ct x0 x1 x2
theorem zZ {q a0 a1 a2 a3:Str} (h:∀ (kV doc pm:Value) (an:Option Addr) (cdv ct x0 x1 x2 x3:Value),VM (Yv x q (cX st) (bO st) (aB st) .none kV doc pm an cdv ct) ⟨[x0,x1,x2,x3],[]⟩=pure [(a0,x0),(a1,x1),(a2,x2),(a3,x3)]:=by intros; rfl):∀ fd,Fun K x q st f fd->Binds K fd [a0,a1,a2,a3] []:=fun _ F=>F.binds fun kV doc pm an cdv ct us hl=>by
 obtain⟨x0,x1,x2,x3,rfl⟩:=Q5 hl
 exact h kV doc pm an cdv ct x0 x1 x2 x3
theorem Ln {q a0 a1 a2 a3 a4:Str} (h:∀ (kV doc pm:Value) (an:Option Addr) (cdv ct x0 x1 x2 x3 x4:Value),VM (Yv x q (cX st) (bO st) (aB st) .none kV doc pm an cdv ct) ⟨[x0,x1,x2,x3,x4],[]⟩=pure [(a0,x0),(a1,x1),(a2,x2),(a3,x3),(a4,x4)]:=by intros; rfl):∀ fd,Fun K x q st f fd->Binds K fd [a0,a1,a2,a3,a4] []:=fun _ F=>F.binds fun kV doc pm an cdv ct us hl=>by
 obtain⟨x0,x1,x2,x3,x4,rfl⟩:=QT hl
 exact h kV doc pm an cdv ct x0 x1 x2 x3 x4
end
end L2
namespace L2
open PySem PySem.Spec PyProof.Rows
section
variable {X:Cx} {k j:Nat} {m:Str} {C:Addr} {ps:List Str} {sp:Sp} {pos apos:Wi} {o e:Expr} {es:List Expr} {to:TE} {t:TA} {E:XK}
end
section
variable {P:RV} {w:Sv} {K:R7} {mg:Str->Option Value} {base h:Tf} {x m q:Str} {st:Stmt} {C f:Addr} {ps:List Str} {sp:Sp} {k:Nat}
theorem HasDef.dx (q:HasDef K x st f) (X:K.In h) (G:h.Ns RM mg) (hb:∀ fd,Fun K x x st f fd->Binds K fd ps []) (ok:∀ fd,Fun K x x st f fd->dB P w K mg base (XL P w) k f fd ps sp):Dx P w K mg base x k ps sp:=by
 obtain⟨a,l,c,k⟩:=q
 have F:=yX l c k
 exact⟨⟨_,_,ok _ F,XD X G a,k,hb _ F⟩⟩
end
section
variable {X:Cx}
end
end L2
namespace L2
open PySem PySem.Spec PyProof.Rows
inductive jj (K:RD) (x q:Str) (C fi:Addr) (st:Stmt) (bm:List Value):Prop where
 | mk {nm qn:Str} {N:Addr} {bs sub:List Value} {hdct ab:Bool} {sn:List Str} {col:Option Bool} {dd odi ani:Option Addr} {k0 k1 k2 k3 k5:Option Value} {cd:ClassData} {sli:Array (Option Value)} {oci kVi dci pmi cdi cti:Value}
  (ac:Uv K RM x=some (some (.ref C))) (oc:K.lookup C=some (Vu nm qn C N bs bm hdct sn sub ab col dd k0 k1 k2 k3 k5 "ValueError.__new__")) (ve:MJ bm) (ic:Zn K (.ref C) "__init__" = some (some (.ref fi))) (tc:W.typeIn K (.ref fi)=some (.type "function")) (pc:W.keepIn K (.ref C)=true)
  (sc:Zn K (.ref C) "__setattr__" = some (some (.builtin "object.__setattr__"))) (dc:W.clsIn K C=some cd) (uc:rE cd.mro=true) (hc:cd.hasDict=true) (kc:W.takerIn K C "word" = some none) (gc:Zn K (.ref C) "__getattribute__" = some (some (.builtin "BaseException.__getattribute__")))
  (gh:Zn K (.ref C) "__getattr__" = some none) (nc:Zn K (.ref C) "word" = some none) (li:K.lookup fi=some ⟨oci,odi,.func (Yv "__init__" q (cX st) (bO st) (aB st) .none kVi dci pmi ani cdi cti),sli⟩) (ci:W.codeIn K cdi q=true) (ki:W.keepIn K (.ref fi)=true):jj K x q C fi st bm
inductive iz (K:RD) (x:Str) (st:Stmt) (f c T:Addr):Prop where
 | mk {od an:Option Addr} {sl:Array (Option Value)} {oc kV dc pm ct:Value} (a:PySem.W.nsIn K RM x=some (some (.ref f))) (l:K.lookup f=some ⟨oc,od,.func (Vw x x (cX st) (bO st) (aB st) .none kV dc pm an (.ref c) ct),sl⟩) (cc:WD K (.ref c) x=true) (k:Ve K (.ref f)=true) (hd:PySem.W.codeHdIn K c T=true):iz K x st f c T
section
variable {K:R7} {mg:Str->Option Value} {h:Tf} {x q x' q':Str} {C fi C' fi' f c T:Addr} {st st':Stmt} {bm bm':List Value}
theorem jj.name (o:jj K x q C fi st bm) (X:K.In h) (G:h.Ns RM mg):mg x=some (.ref C):=by
 obtain⟨ac⟩:=o
 exact XD X G ac
theorem jj.Q4 (o:jj K x q C fi st bm):Fw K C fi "word":=by
 obtain⟨ac,oc,ve,ic,tc,pc,sc,dc,uc,hc,kc⟩:=o
 exact⟨⟨_,_,_,_,_,_,_,_,_,_,_,_,_,_,_,_,oc,ve⟩,ic,tc,pc,sc,⟨_,dc,uc,hc⟩,kc⟩
theorem jj.fn (o:jj K x q C fi st bm):∃ fd,Fun K "__init__" q st fi fd:=by
 obtain⟨_,_,_,_,_,_,_,_,_,_,_,_,_,_,li,ci,ki⟩:=o
 exact⟨_,yX li ci ki⟩
theorem jj.kp (o:jj K x q C fi st bm):W.keepIn K (.ref fi)=true:=by
 obtain⟨_,_,_,_,_,_,_,_,_,_,_,_,_,_,_,_,ki⟩:=o
 exact ki
theorem jj.xrd (o:jj K x q C fi st bm) (b:jj K x' q' C' fi' st' bm') (mr:(R5 C::bm).contains (.ref C')=true):XRd K C C' "word":=by
 obtain⟨_,oc,_,_,_,_,_,dc,uc,hc,_,gc,gh,nc⟩:=o
 obtain⟨_,oc',ve'⟩:=b
 exact⟨⟨_,_,_,_,_,_,_,_,_,_,_,_,_,_,_,_,_,oc,mr⟩,⟨_,_,_,_,_,_,_,_,_,_,_,_,_,_,_,_,_,oc',ve'.b⟩,gc,gh,⟨_,dc,uc⟩,by unfold Zu; rw[dc]; exact hc,nc⟩
theorem HasDef.fn (o:HasDef K x st f):∃ fd,Fun K x x st f fd:=by
 obtain⟨a,l,c,k⟩:=o
 exact⟨_,yX l c k⟩
theorem iz.name (o:iz K x st f c T) (X:K.In h) (G:h.Ns RM mg):mg x=some (.ref f):=by
 obtain⟨a⟩:=o
 exact XD X G a
theorem iz.hd (o:iz K x st f c T):W.codeHdIn K c T=true:=by
 obtain⟨_,_,_,_,hd⟩:=o
 exact hd
theorem iz.law {y:Str} (o:iz K x st f c T) (hb:∀ (kV dc pm:Value) (an:Option Addr) (cd ct:Value) (s:Ra) (v:Value),Yg s (Yv x x (cX st) (bO st) (aB st) .none kV dc pm an cd ct) ⟨[v],[]⟩ [(y,v)]):∃ fd,Ol K x x st f fd c/\∀ (s:Ra) (v:Value),Yg s fd ⟨[v],[]⟩ [(y,v)]:=by
 obtain⟨a,l,cc,k,hd⟩:=o
 exact⟨_,⟨⟨_,_,_,_,_,_,_,_,rfl,l,cc⟩⟩,hb _ _ _ _ _ _⟩
end
end L2
namespace L2
open PySem PySem.Spec PyProof.Rows PySem.Builtin PySem.Builtin.Str
section
variable {X:Cx}
theorem Inv.Gr {X:Cx} {pins:List (Addr × U3)} {σ:St} {H:Hp} {s s':Ra} {l:Addr} {ys:List V} {its:List Value} {c:Nat} (I:Inv X pins σ H s) (ho:s'.os=s.os) (hg:s'.gens=s.gens) (k:∀ b u,s.heap.get? b=some u->s'.heap.get? b=some u)
  (hl:s.heap.objs.size<=l) (hv:Vals ys its) (hz:ys.length<=sizeLine) (g:s'.heap.get? l=some { cls:=.type "tuple",data:=.seq its.toArray c }):Inv X pins σ (upd H l (.tup ys)) s':=by
 have J:=I.laid (t':=s.toks) (o:=.tup ys) k hl ⟨hz,its,hv,_,g,rfl,c,rfl⟩
 exact⟨J.ok,ho.trans I.os,by rw[hg]; exact I.bare,J.base,J.loc,J.cell,J.free,J.freeC,J.pin,J.hok,J.len⟩
def KY:V->List V->Hp->VK->Prop:=fun x vs H Q=>∃ (a b:Str),x = .str a/\vs=[.str b]/\Q (.bl (Txt.startswith a b)) H
theorem Eu:MtR X "str.startswith" KY:=by
 intro pins s σ H x xs v us Q I rx rv h
 obtain⟨a,b,rfl,rfl,q⟩:=h
 obtain⟨t,rfl⟩:=rx
 obtain⟨u,rfl,t',rfl⟩:=vals1 rv
 exact SC.startswith ⟨.bl _,H,I,rfl,q⟩
def M7:V->List V->Hp->VK->Prop:=fun x vs H Q=>∃ (a b:Str),x = .str a/\vs=[.str b]/\Q (.bl (Txt.endswith a b)) H
theorem Kw:MtR X "str.endswith" M7:=by
 intro pins s σ H x xs v us Q I rx rv h
 obtain⟨a,b,rfl,rfl,q⟩:=h
 obtain⟨t,rfl⟩:=rx
 obtain⟨u,rfl,t',rfl⟩:=vals1 rv
 exact SC.endswith ⟨.bl _,H,I,rfl,q⟩
def tri (p:Str × Str × Str):List V:=[.str p.1,.str p.2.1,.str p.2.2]
theorem o7 (p:Str × Str × Str) (ta tb tc:ZK):Vals (tri p) [.str p.1 ta,.str p.2.1 tb,.str p.2.2 tc]:=.cons (show RelV (.str _) _ from ⟨ta,rfl⟩) (.cons (show RelV (.str _) _ from ⟨tb,rfl⟩) (.cons (show RelV (.str _) _ from ⟨tc,rfl⟩) .nil))
theorem uq (p:Str × Str × Str):(tri p).length<=sizeLine:=by show 3<=sizeLine; decide+kernel
def Pb:V->List V->Hp->VK->Prop:=fun x vs H Q=>∃ (a b:Str),x = .str a/\vs=[.str b]/\(b.length == 0)=false/\a.length<=sizeLine/\∀ p,H p=none->Q (.ref p) (upd H p (.tup (tri (Txt.partition a b))))
theorem Jy:MtR X "str.partition" Pb:=by
 intro pins s σ H x xs v us Q I rx rv h
 obtain⟨a,b,rfl,rfl,hy,hz,q⟩:=h
 obtain⟨t,rfl⟩:=rx
 obtain⟨u,rfl,t',rfl⟩:=vals1 rv
 refine WY F.slot_str_partition (WT _ _ _) F.entry_str_partition (F.args_str_partition_2 _ _) (meets_str_partition a b t t' hy hz) ?_
 unfold Txt.partition at q
 revert q
 cases occurrences a b 0 a.length 1 with
 | nil=>intro q; exact⟨.ref _,_,I.Gr rfl rfl (fun _ _ e=>Rb _ e) (Rh _) (o7 _ _ _ _) (uq _) (RK _ rfl),rfl,q _ (I.hok.fresh (Rh _))⟩
 | cons i r=>intro q; exact⟨.ref _,_,I.Gr rfl rfl (fun _ _ e=>Rb _ e) (Rh _) (o7 _ _ _ _) (uq _) (RK _ rfl),rfl,q _ (I.hok.fresh (Rh _))⟩
def Ma:V->List V->Hp->VK->Prop:=fun x vs H Q=>∃ (a b:Str),x = .str a/\vs=[.str b]/\(b.length == 0)=false/\a.length<=sizeLine/\∀ p,H p=none->Q (.ref p) (upd H p (.tup (tri (Txt.rpartition a b))))
theorem yz:MtR X "str.rpartition" Ma:=by
 intro pins s σ H x xs v us Q I rx rv h
 obtain⟨a,b,rfl,rfl,hy,hz,q⟩:=h
 obtain⟨t,rfl⟩:=rx
 obtain⟨u,rfl,t',rfl⟩:=vals1 rv
 refine WY F.slot_str_rpartition (WT _ _ _) F.entry_str_rpartition (F.args_str_rpartition_2 _ _) (meets_str_rpartition a b t t' hy hz) ?_
 unfold Txt.rpartition at q
 revert q
 cases lastOccurrence a b 0 a.length with
 | none=>intro q; exact⟨.ref _,_,I.Gr rfl rfl (fun _ _ e=>Rb _ e) (Rh _) (o7 _ _ _ _) (uq _) (RK _ rfl),rfl,q _ (I.hok.fresh (Rh _))⟩
 | some i=>intro q; exact⟨.ref _,_,I.Gr rfl rfl (fun _ _ e=>Rb _ e) (Rh _) (o7 _ _ _ _) (uq _) (RK _ rfl),rfl,q _ (I.hok.fresh (Rh _))⟩
def Jj:List V->Hp->VK->Prop:=fun xs H Q=>∃ (z:Str) (n:Int),xs=[.str z]/\Yx z=some n/\z.length<=640/\Q (.int n) H
end
end L2
namespace L2
open PySem PySem.Spec PyProof.Rows PySem.Builtin PySem.Builtin.Str
section
variable {X:Cx}
theorem vp:je X (.type "int") Jj:=by
 intro pins s σ H xs us Q I r h
 obtain⟨z,n,rfl,hn,hl,q⟩:=h
 obtain⟨u,rfl,t,rfl⟩:=vals1 r
 exact PySem.W.KIN.call_text hn hl ⟨.int _,H,I.tok _,⟨_,rfl⟩,q⟩
theorem vP:∀ l:List (Str × ZK),Vals ((l.map (·.1)).map V.str) (strValues l)
 | []=>.nil
 | p::r=>.cons (show RelV (.str _) _ from ⟨p.2,rfl⟩) (vP r)
theorem G4 {A:Sh} {E:Value->Ra->Prop} {s:Ra} {prog:RV} {w:Sv} {x y:Str} {t u:ZK} {Q:Value->Ra->Prop} (hy:(y.length == 0)=false)
  (h:∀ l k,l.map (·.1)=Txt.split x y->Q (.ref s.heap.objs.size) { s with heap:=s.heap.push { cls:=.type "list",data:=.seq (strValues l).toArray },toks:=k }) (hsz:x.length+2<=sizeLine) :
  Rt (Ru prog w) A (call (.builtin "str.split") [.str x t,.str y u]) Q E s:=by
 have hn:(partsBetween x (occurrences x y 0 x.length (x.length+1)) y.length).length<=sizeLine:=by
  have e1:=StrLaws.occ_length_le x y 0 x.length (x.length+1)
  rw[length_partsBetween]; lia
 cases h1:(decide (x.length < y.length) || decide (strKind x < strKind y))
 ·cases hf:(occurrences x y 0 x.length (x.length+1)).isEmpty
  ·refine WY ZQ (WT _ _ _) Zx (Ze _ _) (meets_str_split_sep x y t u h1 hy hf (by lia) hn) ?_
   show wants Q E _ { s with toks:=_,heap:=s.heap.push { cls:=.type "list",data:=.seq (strsFrom s.toks (partsBetween x (occurrences x y 0 x.length (x.length+1)) y.length)).toArray } }
   rw[strsFrom_eq]
   exact h (numbered s.toks _) _ ((numbered_texts _ _).trans ((if_neg (ne_true_of_eq_false h1)).trans (if_neg (ne_true_of_eq_false hf))).symm)
  ·exact WY ZQ (WT _ _ _) Zx (Ze _ _) (meets_str_split_not_found x y t u h1 hy hf)
    (h [(x,t)] s.toks ((if_neg (ne_true_of_eq_false h1)).trans (if_pos hf)).symm)
 ·exact WY ZQ (WT _ _ _) Zx (Ze _ _) (meets_str_split_cannot_occur x y t u h1)
   (h [(x,t)] s.toks (if_pos h1).symm)
def Mi:V->List V->Hp->VK->Prop:=fun x vs H Q=>∃ (a b:Str),x = .str a/\vs=[.str b]/\(b.length == 0)=false/\a.length<=1000000/\(Txt.split a b).length<=1000000/\∀ p,H p=none->Q (.ref p) (upd H p (.lst ((Txt.split a b).map V.str)))
theorem iB:MtR X "str.split" Mi:=by
 intro pins s σ H x xs v us Q I rx rv h
 obtain⟨a,b,rfl,rfl,hy,hz,hn,q⟩:=h
 obtain⟨t,rfl⟩:=rx
 obtain⟨u,rfl,t',rfl⟩:=vals1 rv
 refine G4 hy (fun l k e=>?_) (by rw[ZV]; lia)
 rw[← e] at q hn
 exact⟨.ref _,_,I.JM rfl rfl (fun _ _ e=>Rb _ e) (Rh _) (vP l) (by rw[Q8,ZV]; lia) (RK _ rfl),rfl,q _ (I.hok.fresh (Rh _))⟩
theorem Cd:∀ {zs:List Str} {us:List Value},Vals (zs.map V.str) us->StrsAre us zs
 | [],_,h=>by cases h; exact .nil
 | z::zs,_,h=>by
  cases h with
  | cons e r =>
   obtain⟨t,rfl⟩:=e
   exact .cons _ _ (Cd r)
def rJoin (K:R7):V->List V->Hp->VK->Prop:=fun x vs H Q=>∃ (a:Str) (p:Addr) (zs:List Str),x = .str a/\vs=[.ref p]/\SqL K H p (zs.map V.str)/\(zs.map (·.length)).sum+zs.length * a.length<=16777216/\Q (.str (Txt.join a zs)) H
theorem wN:MtR X "str.join" (rJoin X.K):=by
 intro pins s σ H x xs v us Q I rx rv h
 obtain⟨a,p,zs,rfl,rfl,hq,hs,q⟩:=h
 obtain⟨t,rfl⟩:=rx
 obtain⟨u,rfl,ru⟩:=vals1 rv
 cases ru
 obtain⟨its,rv',pl,_⟩:=I.list hq
 exact join_list pl.isList (Cd rv') hs fun t' k=>⟨.str _,H,I.tok _,⟨_,rfl⟩,q⟩
end
end L2
namespace L2
open PySem PySem.Spec PyProof.Rows PySem.Builtin PySem.Builtin.Str
section
variable {X:Cx}
def fK (x:Str) (lo hi:Option Int):Str:=if (strSliceIndices lo hi 1 x.length).length=x.length then x else ⟨((strSliceIndices lo hi 1 x.length).filterMap (x.cps[·]?)).toArray⟩
def rm:V->Option Int->Option Int->Hp->VK->Prop:=fun x lo hi H Q=>∃ (a:Str),x = .str a/\a.length<=sizeLine/\(fK a lo hi).length<=sizeLine/\Q (.str (fK a lo hi)) H
theorem oR {pins:List (Addr × U3)} {s:Ra} {σ:St} {H:Hp} {a:Str} {t:ZK} {l u:Option (Int × ZK)} {Q:VK} (I:Inv X pins σ H s) (hl:(fK a (l.map (·.1)) (u.map (·.1))).length<=sizeLine) (q:Q (.str (fK a (l.map (·.1)) (u.map (·.1)))) H) :
  (sliceMade a t l u none).post (EP X pins σ Q) s:=by
 unfold sliceMade slicePicked
 unfold fK at q hl
 by_cases z:(strSliceIndices (l.map (·.1)) (u.map (·.1)) 1 a.length).length=a.length
 ·rw[if_pos z] at q
  rw[if_pos (by simpa using z)]
  exact⟨.str a,H,I,⟨_,rfl⟩,q⟩
 ·rw[if_neg z] at q hl
  rw[if_neg (by simpa using z)]
  first | exact⟨.str _,H,I.tok _,⟨_,rfl⟩,q⟩ | exact⟨hl,.str _,H,I.tok _,⟨_,rfl⟩,q⟩
theorem dR:SlR X rm:=by
 intro pins s σ H x v vl vu lo hi sl Q I rx hs pl pu h
 obtain⟨a,rfl,hz,hl,q⟩:=h
 obtain⟨t,rfl⟩:=rx
 refine⟨"str",_,F.slot_str_getitem.lookup,WT _ _ _,?_⟩
 cases pl with
 | none =>
  cases pu with
  | none=>exact Ww (l:=none) (u:=none) (st:=none) hs rfl (oR I hl q)
  | int i2 t2=>exact Ww (l:=none) (u:=some (i2,t2)) (st:=none) hs rfl (oR I hl q)
 | int i1 t1 =>
  cases pu with
  | none=>exact Ww (l:=some (i1,t1)) (u:=none) (st:=none) hs rfl (oR I hl q)
  | int i2 t2=>exact Ww (l:=some (i1,t1)) (u:=some (i2,t2)) (st:=none) hs rfl (oR I hl q)
end
end L2
namespace L2
open PySem PySem.Spec PyProof.Rows
def Ov (x:Str):Prop:=x.cps.all (· < 128)=true
def sgn (x:Str) (i:Nat):V:=.str ⟨#[x.cps.getD i 0]⟩
def Its (x:Str):It:=⟨fun i _=>i < x.cps.size,fun i H v H'=>H'=H/\v=sgn x i,fun i _=>x.cps.size<=i⟩
theorem FP {P:RV} {w:Sv} {K:R7} {tg:Expr} (x:Str) (t:ZK) (it:Addr):Turn P w K tg (Its x) [it] it (fun i h=>h.IsStrIter it "str_ascii_iterator" x t i) where
 mem:=by simp
 obj:=fun i h st b hb=>by
  have e:b=it:=by simpa using hb
  subst e
  obtain⟨o,e,c,d⟩:=st
  exact⟨o,e,fun v z=>by rw[d] at z; cases z⟩
 keep:=fun i h h' st k=>by
  obtain⟨o,e,r⟩:=st
  exact⟨o,k it (by simp) o e,r⟩
 item:=by
  intro X hP hw hK hc i pins s σ H E I hf st hg
  subst hP hw hK
  have hi:i < x.cps.size:=hg
  obtain⟨f0,f1,f2,f3,f4,f5⟩:=hf it (by simp)
  refine wpAny_pyNext_ascii_item st (c:=x.cps.getD i 0) (by simp [Array.getD,hi]) fun h' st' sb=>?_
  have I1:Inv X pins σ H { s with heap:=h',toks:=s.toks+1 }:=I.turned (t':=s.toks+1) (fun b o hb e=>(sb.2 b hb).trans e) f0 f1 f3 f4 f5
  obtain⟨o,e,c,d⟩:=id st'
  exact⟨_,rfl,Gs (s:={ s with heap:=h',toks:=s.toks+1 }) e c d (by decide) ⟨sgn x i,H,I1,⟨_,rfl⟩,⟨rfl,rfl⟩,st',fun b hb=>(hf b hb).1⟩⟩
 done:=by
  intro X hP hw hK hc i pins s σ H E I hf st hg
  subst hP hw hK
  have hi:x.cps.size<=i:=hg
  obtain⟨f0,f1,f2,f3,f4,f5⟩:=hf it (by simp)
  exact wpAny_pyNext_ascii_end (I.ok.hd hc) st (by simp; lia) fun h' eb=>⟨rfl,I.turned (t':=s.toks) (fun b o hb e=>eb b o hb e) f0 f1 f3 f4 f5⟩
 self:=fun _ _ _ _ _ st h=>wpAny_pyIter_striter_ascii st h
section
variable {X:Cx} {tg:Expr}
def Qu (tl:TE):TI:=fun σ H R=>tl σ H fun v H1=>∃ (x:Str),v = .str x/\Ov x/\R (Its x) H1
theorem Ef {l:Expr} {tl:TE} (hl:PE X l tl):PI X tg l (Qu tl):=by
 intro pins s σ H R I h
 refine thn (hl pins s σ H _ I h) fun v s1 ⟨y,H1,I1,r1,q1⟩=>?_
 obtain⟨x,rfl,ha,q⟩:=q1
 obtain⟨t,rfl⟩:=r1
 refine wpAny_pyIter_ascii ha ?_
 refine⟨s1.heap.objs.size,[s1.heap.objs.size],_,_,H1,rfl,I1.kept (t':=s1.toks) fun b o e=>Rb _ e,FP x t _,⟨_,RK _ rfl,rfl,rfl⟩,fun b hb=>?_,q⟩
 have e:b=s1.heap.objs.size:=by simpa using hb
 subst e
 exact I1.J4 (Rh _) (I1.hok.fresh (Rh _))
theorem Ko {x:Str} {g:TG} {tb:TS} {D:Ends} {σ:St} {H:Hp} (Pv:Nat->St->Hp->Prop) (h0:Pv 0 σ H)
  (hs:∀ i σ H,i < x.cps.size->Pv i σ H->g (sgn x i) σ H fun σ2 H2=>tb { D with nx:=Pv (i+1),ct:=Pv (i+1),bk:=D.nx } σ2 H2) (hd:∀ σ H,Pv x.cps.size σ H->D.nx σ H) :
  ∃ W:Nat->Nat->St->Hp->Prop,(∃ m,W 0 m σ H)/\∀ i m σ H,W i m σ H →
   ((Its x).stop i H/\D.nx σ H)∨((Its x).go i H/\∃ N:St->Hp->Prop,(∀ σ' H',N σ' H'->∃ m',m' < m/\W (i+1) m' σ' H')/\∀ v H',(Its x).yld i H v H'->g v σ H' fun σ2 H2=>tb { D with nx:=N,ct:=N,bk:=D.nx } σ2 H2):=by
 refine⟨fun i m σ H=>m=x.cps.size - i/\i<=x.cps.size/\Pv i σ H,⟨x.cps.size,by simp,Sd _,h0⟩,?_⟩
 rintro i m σ H ⟨rfl,hi,p⟩
 by_cases hlt:i < x.cps.size
 ·refine .inr ⟨hlt,Pv (i+1),fun σ' H' p'=>⟨x.cps.size - (i+1),by lia,rfl,hlt,p'⟩,fun v H' y=>?_⟩
  obtain⟨e,y⟩:=y
  subst e y
  exact hs i σ _ hlt p
 ·have e:i=x.cps.size:=by lia
  subst e
  exact .inl ⟨Rh _,hd σ H p⟩
end
end L2
namespace L2
open PySem PySem.Spec PyProof.Rows
def K9 (y : Str) : It :=
  ⟨fun i _ => i < y.cps.size,
   fun i H v H' => ∃ p, H p = none ∧ v = .ref p ∧ H' = upd H p (.tup [.int (i : Int), sgn y i]),
   fun i _ => i = y.cps.size⟩
def tnS (y:Str) (t:ZK) (e it:Addr) (i:Nat) (h:Tf):Prop:=(∃ old,IsEnum h e it (i:Int) old)/\h.IsStrIter it "str_ascii_iterator" y t i
theorem Ao {P:RV} {w:Sv} {K:R7} {elts:List Expr} {x1} {pos:Wi} {y:Str} {t:ZK} {e it:Addr} (hne:e≠it) :
  Turn P w K (.Tuple elts x1 pos) (K9 y) [e,it] e (tnS y t e it) where
 mem:=by simp
 obj:=fun i h st c hc=>by
  obtain⟨⟨old,he⟩,⟨o,ho,_,d⟩⟩:=st
  simp only[Tu,T7,or_false] at hc
  rcases hc with rfl | rfl
  ·exact⟨_,he,fun v z=>by cases z⟩
  ·exact⟨_,ho,fun v z=>by rw[d] at z; cases z⟩
 keep:=fun i h h' st k=>by
  obtain⟨⟨old,he⟩,⟨o,ho,r⟩⟩:=st
  exact⟨⟨old,k e (by simp) _ he⟩,⟨o,k it (by simp) o ho,r⟩⟩
 item:=by
  intro X hP hw hK hc i pins s σ H E I hf st hg
  subst hP hw hK
  have hi:i < y.cps.size:=hg
  obtain⟨⟨old,he⟩,j⟩:=st
  have hh:X.A.in1.handled=none:=by
   have:=I.ok.hd hc
   simpa using this
  refine wpAny_pyNext_enum_itemD (Draws.strAscii hh it y t) he j hi hne (by simpa using hne) fun xu h' tk hP e1 j1 t1 z1 kp=>⟨_,rfl,?_⟩
  have rx:RelV (sgn y i) xu:=by
   obtain⟨c,t',e1,e2⟩:=hP
   rw[e2]
   have:y.cps.getD i 0=c:=by
    rw[Uq,e1]
    rfl
   unfold sgn
   rw[this]
   exact⟨_,rfl⟩
  refine wpAny_letOwnedTupleGo_enum e1 fun h2 e2 b2=>?_
  have el:e < s.heap.objs.size:=Ro he
  have il:it < s.heap.objs.size:=by obtain⟨o,q,_⟩:=j; exact Ro q
  have I1:Inv X pins σ (upd H s.heap.objs.size (.tup [.int (i:Int),sgn y i])) { s with heap:=s.heap.push { cls:=.type "tuple",data:=.seq #[.int i tk,xu] },toks:=tk+1 } :=
   I.laid (t':=tk+1) (fun _ _ q=>Rb _ q) (Rh _) ⟨by show 2<=sizeLine; decide,[.int i tk,xu],.cons ⟨_,rfl⟩ (.cons rx .nil),⟨_,RK _ rfl,rfl,_,rfl⟩⟩
  have ff:∀ c∈[e,it],sU X pins (upd H s.heap.objs.size (.tup [.int (i:Int),sgn y i])) c:=fun c hc=>by
   obtain⟨f0,fr⟩:=hf c hc
   have cl:c < s.heap.objs.size:=by
    simp only[Tu,T7,or_false] at hc
    rcases hc with rfl | rfl
    ·exact el
    ·exact il
   exact⟨by rw[aR (RX cl)]; exact f0,fr⟩
  have kk:∀ c o,c ∉ [e,it]->(s.heap.push { cls:=.type "tuple",data:=.seq #[.int i tk,xu] }).get? c=some o->h2.get? c=some o:=fun c o hc q=>by
   have c1:c≠e:=fun h=>hc (by simp [h])
   have c2:c≠it:=fun h=>hc (by simp [h])
   refine (b2.2 c c1).trans ?_
   rcases Heap.get?_push_cases q with⟨ec,eo⟩ | q'
   ·subst ec
    subst eo
    exact t1
   ·exact kp c o c1 c2 q'
  have I2:Inv X pins σ (upd H s.heap.objs.size (.tup [.int (i:Int),sgn y i])) { s with heap:=h2,toks:=tk+1 } :=
   Inv.sZ (s:={ s with heap:=s.heap.push { cls:=.type "tuple",data:=.seq #[.int i tk,xu] },toks:=tk+1 }) (h':=h2) (t':=tk+1) (ch:=[e,it]) I1 kk ff
  obtain⟨oj,hoj,rj⟩:=j1
  exact⟨.ref s.heap.objs.size,_,I2,rfl,⟨_,I.fresh,rfl,rfl⟩,⟨⟨_,e2⟩,⟨oj,(b2.2 it (Tw hne)).trans hoj,rj⟩⟩,fun c hc=>(ff c hc).1⟩
 done:=by
  intro X hP hw hK hc i pins s σ H E I hf st hg
  subst hP hw hK
  have hi:i=y.cps.size:=hg
  subst hi
  obtain⟨⟨old,he⟩,j⟩:=st
  have hh:X.A.in1.handled=none:=by
   have:=I.ok.hd hc
   simpa using this
  refine wpAny_pyNext_enum_endD (Draws.strAscii hh it y t) he j fun h' eb=>⟨rfl,?_⟩
  exact I.sZ (t':=s.toks) (ch:=[e,it]) (fun c o hc q=>eb c o (fun h=>hc (by simp [h])) q) hf
 self:=fun _ _ _ _ _ st h=>by
  obtain⟨⟨old,he⟩,_⟩:=st
  exact Xr he h
def Mq (ta:TA):TI:=fun σ H R=>ta σ H fun vs H1=>∃ (y:Str),vs=[.str y]/\Ov y/\R (K9 y) H1
theorem Fq {X:Cx} {elts:List Expr} {x1} {tpos:Wi} {a:Expr} {ta:TA} {p pos:Wi} (hg:Gl X "enumerate") (hm:X.mg "enumerate" = none) (ha:PA X [a] ta) (hs:R9 [a] X.env=[(false,UG a X.env)]:=by rfl) :
  PI X (.Tuple elts x1 tpos) (.Call (.Name "enumerate" p) [a] [] pos) (Mq ta):=by
 intro pins s σ H R I h
 refine Call_ (lW I hg hm boot_enumerate (Vc (thn (ha pos pins s σ H _ I h) fun us s1 ⟨vs,H1,I1,r1,q1⟩=>?_) hs rfl))
 obtain⟨y,e,hy,q⟩:=q1
 subst e
 obtain⟨u1,rfl,t,rfl⟩:=vals1 r1
 refine call_enumerate_str fun h' e1 j1 _ kp=>?_
 have en:s1.heap.objs.size+1≠s1.heap.objs.size:=Vx (W8 _)
 have j1':h'.IsStrIter s1.heap.objs.size "str_ascii_iterator" y t 0:=by
  have e:strIterType y = "str_ascii_iterator":=if_pos hy
  rw[e] at j1
  exact j1
 refine Xr e1 ⟨_,_,_,_,H1,rfl,I1.kept (t':=s1.toks) kp,Ao (y:=y) (t:=t) en,⟨⟨_,e1⟩,j1'⟩,fun b hb=>?_,q⟩
 have hle:s1.heap.objs.size<=b:=by
  simp only[Tu,T7,or_false] at hb
  rcases hb with rfl | rfl
  ·exact Ud _
  ·exact Rh _
 exact I1.J4 hle (I1.hok.fresh hle)
theorem DP {y:Str} {g:TG} {tb:TS} {D:Ends} {σ:St} {H:Hp} (Pv:Nat->St->Hp->Prop) (h0:Pv 0 σ H)
  (hs:∀ i p σ H,i < y.cps.size->H p=none->Pv i σ H->g (.ref p) σ (upd H p (.tup [.int (i:Int),sgn y i])) fun σ2 H2=>tb { D with nx:=Pv (i+1),ct:=Pv (i+1),bk:=D.nx } σ2 H2) (hd:∀ σ H,Pv y.cps.size σ H->D.nx σ H) :
  ∃ W:Nat->Nat->St->Hp->Prop,(∃ m,W 0 m σ H)/\∀ i m σ H,W i m σ H →
   ((K9 y).stop i H/\D.nx σ H)∨((K9 y).go i H/\∃ N:St->Hp->Prop,(∀ σ' H',N σ' H'->∃ m',m' < m/\W (i+1) m' σ' H')/\∀ x H',(K9 y).yld i H x H'->g x σ H' fun σ2 H2=>tb { D with nx:=N,ct:=N,bk:=D.nx } σ2 H2):=by
 refine⟨fun i m σ H=>m=y.cps.size - i/\i<=y.cps.size/\Pv i σ H,⟨y.cps.size,by simp,Sd _,h0⟩,?_⟩
 rintro i m σ H ⟨rfl,hi,p⟩
 by_cases hlt:i < y.cps.size
 ·refine .inr ⟨hlt,Pv (i+1),fun σ' H' p'=>⟨y.cps.size - (i+1),by lia,rfl,hlt,p'⟩,fun v H' z=>?_⟩
  obtain⟨pp,hp,rfl,rfl⟩:=z
  exact hs i pp σ _ hlt hp p
 ·have e:i=y.cps.size:=by lia
  subst e
  exact .inl ⟨rfl,hd σ H p⟩
end L2
namespace L2
open PySem PySem.Spec PyProof.Rows PySem.Builtin PySem.Builtin.Str
theorem Pz {X:Cx} {x z:Str} {pos:Wi} {tk:ZK} (hm:X.mg x=some (.str z tk)) (hg:Gl X x:=by rfl) (hd:(x == ("__debug__" : Str))=false:=by decide):PE X (.Name x pos) (tC (.str z)):=xW hg hm ⟨_,rfl⟩ hd
section
variable {D:Addr} {x:Str} {g:TG} {tt:TT} {te:TE} {H1:Hp} {Q:Hp->Prop} {σ0:St}
theorem yO (Pv:Nat->List V->St->Hp->Prop) (h0:Pv 0 [] σ0 (upd H1 D (.lst []))) (hl:∀ i ys σ H,i<=x.cps.size->Pv i ys σ H->H D=some (.lst ys))
  (hs:∀ i ys σ H,i < x.cps.size->Pv i ys σ H->g (sgn x i) σ H fun σ3 H3=>tt σ3 H3 fun b H4=>if b=true then te σ3 H4 fun y H5=>H5 D=some (.lst ys)/\ys.length < sizeLine/\Pv (i+1) (ys++[y]) σ3 (upd H5 D (.lst (ys++[y]))) else Pv (i+1) ys σ3 H4)
  (hd:∀ ys σ H,Pv x.cps.size ys σ H->Q H):fZ D σ0 (Its x) g tt te H1 Q:=by
 refine⟨fun i m ys σ H=>m=x.cps.size - i/\i<=x.cps.size/\Pv i ys σ H,⟨x.cps.size,by simp,Sd _,h0⟩,?_⟩
 rintro i m ys σ H ⟨rfl,hi,p⟩
 refine⟨hl i ys σ H hi p,?_⟩
 by_cases hlt:i < x.cps.size
 ·refine .inr ⟨hlt,Pv (i+1),fun zs σ' H' p'=>⟨x.cps.size - (i+1),by lia,rfl,hlt,p'⟩,fun v H' y=>?_⟩
  obtain⟨e,y⟩:=y
  subst e y
  exact hs i ys σ _ hlt p
 ·have e:i=x.cps.size:=by lia
  subst e
  exact .inl ⟨Rh _,hd ys σ H p⟩
end
theorem Bd (x:Str) (lo hi:Option Int):fK x lo hi=StrLaws.sliceText x lo hi:=by
 unfold fK StrLaws.sliceText
 by_cases h:(strSliceIndices lo hi 1 x.length).length=x.length
 ·rw[if_pos h,if_pos (by simpa using h)]
 ·rw[if_neg h,if_neg (by simpa using h)]
end L2
namespace L2
open PySem PySem.Spec PyProof.Rows
theorem rK {env env':WQ} (h:env.frame=env'.frame) (e:Value):U4 e env=U4 e env':=by
 unfold U4 PySem.frameOf
 rw[h]
section
variable {M:ZW} {A:Sh} {E:Value->Ra->Prop} {s:Ra} {B:Tf} {env:WQ} {outer:List WQ} {L x C dx:Addr} {Q:Unit->Ra->Prop}
theorem jQ {h h':Tf} {c:Addr} (hs:Vy c h h'):∀ {l:List WQ},h.FunFrames B l->c ∉ l.filterMap (·.frame)->h'.FunFrames (W.hideAll B [c]) l
 | [],_,_=>trivial
 | env::r,⟨hk,⟨L,o,hf,hb,ho,hd⟩,hr⟩,hc=>by
  have e:(env::r).filterMap (·.frame)=L::r.filterMap (·.frame):=by rw[Wh,hf]
  rw[e] at hc
  have n:=not_or.mp fun z=>hc (List.mem_cons.mpr z)
  have bn:(Uz B [c]).get? L=none:=by
   cases q:(Uz B [c]).get? L with
   | none=>rfl
   | some o=>rw[Xo _ q] at hb; cases hb
  exact⟨hk,⟨L,o,hf,bn,(hs.2 L (Tw n.1)).trans ho,hd⟩,jQ hs hr n.2⟩
theorem Fly.less {l:List WQ} {fl:Value} {h h':Tf} (F:Fly B l x C dx fl h) (c:Addr) (hs:Vy c h h') (cx:c≠x) (cf:c ∉ l.filterMap (·.frame)) (cT:∃ o,B.get? c=some o):Fly (W.hideAll B [c]) l x C dx fl h':=by
 obtain⟨st,bx,fr,vs,T,oT,ts,sl,ex,v1,bT,hTx,hT,dT,t3⟩:=F
 have cT':c≠T:=fun z=>by
  obtain⟨o,e⟩:=cT
  rw[z,bT] at e
  cases e
 have sub:∀ b o,(Uz B [c]).get? b=some o->B.get? b=some o/\b≠c:=fun b o e=>⟨Xo _ e,fun z=>by rw[z,Yy _ Rc] at e; cases e⟩
 refine⟨fun b o e=>?_,?_,?_,vs,T,oT,ts,sl,(hs.2 _ (Tw cx)).trans ex,v1,?_,hTx,(hs.2 _ (Tw cT')).trans hT,dT,t3⟩
 ·obtain⟨e1,e2⟩:=sub b o e
  exact (hs.2 b e2).trans (st b o e1)
 ·cases q:(Uz B [c]).get? x with
  | none=>rfl
  | some o=>rw[(sub x o q).1] at bx; cases bx
 ·exact jQ hs fr cf
 ·cases q:(Uz B [c]).get? T with
  | none=>rfl
  | some o=>rw[(sub T o q).1] at bT; cases bT
theorem BW {fl:Value} (hfr:A.frames=some (env::outer)) (hf:env.frame=some L) (F:Fly B (env::outer) x C dx fl s.heap)
  (h:∀ h',Fly B (env::outer) x C dx (Te L) h'->Up s.heap h'->Q () { s with heap:=h' }):Rt M A (U4 (.ref x) env) Q E s:=by
 obtain⟨st,bx,fr,vs,T,oT,ts,sl,ex,v1,bT,hTx,hT,dT,t3⟩:=id F
 by_cases q:(fl == Te L)=true
 ·have e:=eq_of_beq q
  subst e
  unfold U4
  simp only[hf]
  refine Q9 (U0 ex rfl v1 ?_)
  rw[if_pos (show (R5 T != SQ)=true by simp)]
  refine Q9 (U0 hT dT t3 ?_)
  rw[if_pos q]
  exact Rj (h s.heap F ⟨fun b o e nf=>⟨_,e⟩,fun b o e=>⟨o,e⟩⟩)
 ·unfold U4
  simp only[hf]
  refine Q9 (U0 ex rfl v1 ?_)
  rw[if_pos (show (R5 T != SQ)=true by simp)]
  refine Q9 (U0 hT dT t3 ?_)
  rw[if_neg q]
  refine Q9 (Ut hT dT (Array.getElem?_eq_some_iff.mp t3).1 ?_)
  have keep:∀ b o,b≠T->s.heap.get? b=some o->(s.heap.update T (Ub (·.setIfInBounds 3 SQ))).get? b=some o:=fun b o hb z=>(R8 _ _ (Tw hb)).trans z
  have nrec:∀ b o,s.heap.get? b=some o->(∀ vs,o.data≠.fields vs)->b≠T:=fun b o z nf q=>by
   rw[q,hT] at z
   cases z
   exact nf ts dT
  refine qQ (s:={ s with heap:=s.heap.update T (Ub (·.setIfInBounds 3 SQ)) }) hfr (fr.of_keeps fun b o z nf=>⟨o,keep b o (nrec b o z nf) z,rfl⟩) hf (keep x _ (Tw hTx) ex) (fun b o z=>keep b o (fun q=>by rw[q,bT] at z; cases z) (st b o z)) bx (Array.getElem?_eq_some_iff.mp v1).1 fun h1 F1 u1=>h h1 F1 ?_
  refine Up.trans ⟨fun b o z nf=>⟨o.slots,keep b o (nrec b o z nf) z⟩,fun b o z=>?_⟩ u1
  by_cases hb:b=T
  ·subst hb
   exact⟨_,R4 _ hT (Vh (UT dT _))⟩
  ·exact⟨o,keep b o hb z⟩
theorem JK {fl:Value} {l:List WQ} {fr:Option Addr} (F:Fly B l x C dx fl s.heap) (h:∀ h' fl',Fly B l x C dx fl' h'->Up s.heap h'->Q () { s with heap:=h' }):Rt M A (ZF (.ref x) fr) Q E s:=by
 obtain⟨st,bx,fr',vs,T,oT,ts,sl,ex,v1,bT,hTx,hT,dT,t3⟩:=F
 unfold ZF
 refine Q9 (U0 ex rfl v1 ?_)
 rw[if_pos (show (R5 T != SQ)=true by simp)]
 have s3:3 < ts.size:=(Array.getElem?_eq_some_iff.mp t3).1
 have keep:∀ b o,b≠T->s.heap.get? b=some o->(s.heap.update T (Ub (·.setIfInBounds 3 (fr.elim SQ fun f=>Te f)))).get? b=some o:=fun b o hb z=>(R8 _ _ (Tw hb)).trans z
 have nrec:∀ b o,s.heap.get? b=some o->(∀ vs,o.data≠.fields vs)->b≠T:=fun b o z nf q=>by
  rw[q,hT] at z
  cases z
  exact nf ts dT
 refine Ut hT dT s3 (h _ (fr.elim SQ fun f=>Te f) ?_ ?_)
 ·refine⟨fun b o z=>keep b o (fun q=>by rw[q,bT] at z; cases z) (st b o z),bx,fr'.of_keeps fun b o z nf=>⟨o,keep b o (nrec b o z nf) z,rfl⟩,vs,T,_,ts.setIfInBounds 3 (fr.elim SQ fun f=>Te f),sl,keep x _ (Tw hTx) ex,v1,bT,hTx,R4 _ hT (Vh (UT dT _)),UT dT _,by simp [s3]⟩
 ·refine⟨fun b o z nf=>⟨o.slots,keep b o (nrec b o z nf) z⟩,fun b o z=>?_⟩
  by_cases hb:b=T
  ·subst hb
   exact⟨_,R4 _ hT (Vh (UT dT _))⟩
  ·exact⟨o,keep b o hb z⟩
theorem Er {fl:Value} (hfr:A.frames=some (env::outer)) (hf:env.frame=some L) (F:Fly B (env::outer) x C dx fl s.heap)
  (h:∀ h',Fly B (env::outer) x C dx .none h'->Up s.heap h'->Q () { s with heap:=h' }):Rt M A (leaving env (.ref x)) Q E s:=by
 unfold leaving
 refine Q9 (BW hfr hf F fun h1 F1 u1=>?_)
 exact lO (s:={ s with heap:=h1 }) F1 fun h2 F2 u2=>h h2 F2 (u1.trans u2)
end
theorem Gj {X:Cx} {E:XK} {Q:Value->Ra->Prop} {E0:Value->Ra->Prop} (stk:X.stack=X.env::X.outer/\X.env.frame=some X.env.locals) (hex:X.ex=[])
  (hxe:∀ e s',Rt (Ru X.prog X.w) X.A (leaving X.env e) (fun _ s2=>XL X.prog X.w X.outer X.H₀ X.s₀ E e s2) (fun e2 s2=>XL X.prog X.w X.outer X.H₀ X.s₀ E e2 s2) s'->X.xe e s')
  {pins:List (Addr × U3)} {σ:St} {H H':Hp} {s s':Ra} {x C dx c:Addr} {B:Tf} (I:Inv X pins σ H s) (Li:Lie X.prog X.w X.stack H s x C dx H' B s') (hE:E (.ref C) (some dx) H')
  (c0:X.s₀.heap.objs.size<=c) (cs:∃ m,s.heap.Ns c m) (cn:H c=none) (cf:c ∉ frs X.stack) {cenv:WQ} (ce:cenv.frame=X.env.frame) :
  Rt (Ru X.prog X.w) X.A (U4 (.ref x) cenv) (fun _ s1=>(∃ m,s1.heap.Ns c m)/\∀ h',Vy c s1.heap h'->∀ cenv:WQ,Rt (Ru X.prog X.w) X.A (PySem.passOn "comprehension.variables-let-go" (.ref x) cenv:Sem Value) Q X.xe { s1 with heap:=h' }) E0 s':=by
 rw[rK ce]
 have fl0:Fly B (X.env::X.outer) x C dx .none s'.heap:=stk.1▸Li.fly
 have cf':c ∉ (X.env::X.outer).filterMap (·.frame):=by rw[← stk.1]; exact cf
 obtain⟨m,hm⟩:=cs
 obtain⟨oc,es,ep,hoc,dc,hk,hmm⟩:=id hm
 have cB:=Li.kb c oc hoc cn cf
 have cx:c≠x:=fun z=>by
  have:=Li.fly.bx
  rw[← z,cB] at this
  cases this
 refine tK (by rw[I.ok.frames,stk.1]) stk.2 fl0 fun h1 F1 u1=>⟨⟨m,oc,es,ep,F1.stay c oc cB,dc,hk,hmm⟩,fun h2 hs cenv=>?_⟩
 have F2:=F1.less c hs cx cf' ⟨oc,cB⟩
 obtain⟨_,_,_,vs2,T2,_,_,_,ex2,v2,_⟩:=id F2
 unfold PySem.passOn
 refine Q9 (U0 (s:={ s' with heap:=h2 }) ex2 rfl v2 ?_)
 rw[if_neg (show ¬ (R5 T2 == SQ)=true by simp)]
 refine Q9 (JK (s:={ s' with heap:=h2 }) F2 fun h3 fl3 F3 u3=>wpAny_throw (hxe _ _ (Er (s:={ s' with heap:=h3 }) (outer:=X.outer) (by rw[I.ok.frames,stk.1]) stk.2 F3 fun h4 F4 u4=>?_)))
 have nex:∀ b,b ∉ X.ex:=fun b z=>by
  rw[hex] at z
  cases z
 have cn':H' c=none:=Li.un.free c oc hoc cn (fun z=>nomatch z)
 have inB:∀ b o,B.get? b=some o->b≠c->(Uz B [c]).get? b=some o:=fun b o e n=>YJ _ e fun z=>n (List.mem_singleton.mp z)
 have n0:∀ b o,X.s₀.heap.get? b=some o->b≠c:=fun b o e z=>Sx _ (Rm (z▸Ro e) c0)
 have old:∀ b o,X.s₀.heap.get? b=some o->X.H₀ b=none->b ∉ X.fs->s.heap.get? b=some o/\H b=none/\b ∉ frs X.stack:=fun b o e n hb=>by
  refine⟨I.base.keep b o e n hb (nex b),I.base.free b o e n (nex b),fun z=>?_⟩
  rcases List.mem_cons.mp (I.qm b z) with z | z
  ·have:=Rm (Ro e) I.ok.above
   rw[z] at this
   exact Sx _ this
  ·exact hb z
 have inS:∀ b,b∈X.fs->b∈frs X.stack:=fun b hb=>by
  obtain⟨en,h1,h2⟩:=List.mem_filterMap.mp hb
  rw[stk.1]
  exact List.mem_filterMap.mpr ⟨en,Ri _ h1,h2⟩
 refine⟨x,C,dx,H',Uz B [c],rfl,⟨Li.os.trans I.os,Li.bare,⟨F4.stay,F4.bx,F4.frs.2.2,F4.tr⟩,⟨fun b o e n hb _=>?_,fun b o e n hb _=>?_,fun b o e n _=>?_,fun b o e _=>?_,fun b l e=>Li.un.tups b l (I.base.tups b l e),fun b o u e=>Li.un.frzs b o u (I.base.frzs b o u e),fun b ps e=>?_⟩,?_,fun b o e n hb=>?_,fun b u e=>?_,Li.xn⟩,hE⟩
 ·obtain⟨e1,e2,e3⟩:=old b o e n hb
  exact F4.stay b o (inB b o (Li.kb b o e1 e2 e3) (n0 b o e))
 ·obtain⟨sl,e1⟩:=I.base.slot b o e n hb (nex b)
  have n1:=I.base.free b o e n (nex b)
  obtain⟨_,o',ho',nf⟩:=I.ok.rH.mem hb
  have z:some o=some o':=e.symm.trans ho'
  cases z
  obtain⟨sl1,e2⟩:=Li.un.slot b _ e1 n1 (inS b hb) (fun z=>nomatch z)
  obtain⟨sl2,e3⟩:=u1.sl b _ e2 nf
  have e4:=(hs.2 b (n0 b _ e)).trans e3
  obtain⟨sl3,e5⟩:=u3.sl b _ e4 nf
  obtain⟨sl4,e6⟩:=u4.sl b _ e5 nf
  exact⟨sl4,e6⟩
 ·obtain⟨o1,e1⟩:=I.base.there b o e (nex b)
  exact Li.un.free b o1 e1 (I.base.free b o e n (nex b)) (fun z=>nomatch z)
 ·obtain⟨o1,e1⟩:=I.base.there b o e (nex b)
  obtain⟨o2,e2⟩:=Li.un.there b o1 e1 (fun z=>nomatch z)
  obtain⟨o3,e3⟩:=u1.th b o2 e2
  obtain⟨o4,e4⟩:=u3.th b o3 ((hs.2 b (n0 b _ e)).trans e3)
  exact u4.th b o4 e4
 ·obtain⟨m1,z⟩:=I.base.tbls b ps e
  obtain⟨m2,z2⟩:=Li.un.tbls b _ z
  exact⟨m1++m2,by rw[z2,Wv]⟩
 ·refine mH Li.hok (fun _ _ e=>e) (fun _ _ e=>e) (fun _ _ e=>e) fun b u o e q=>?_
  obtain⟨o',e1,e2⟩:=Li.hb b u e
  rw[e1] at q
  cases q
  exact F4.stay b _ (inB b _ e2 fun z=>by rw[z,cn'] at e; cases e)
 ·obtain⟨e1,e2,e3⟩:=old b o e n hb
  exact inB b o (Li.kb b o e1 e2 e3) (n0 b o e)
 ·obtain⟨o',e1,e2⟩:=Li.hb b u e
  have e3:=inB b _ e2 fun z=>by rw[z,cn'] at e; cases e
  exact⟨o',F4.stay b _ e3,e3⟩
theorem xZ {prog:RV} {w:Sv} {A:Sh} {R:Yw->Ra->Prop} {s:Ra} {elt target iter:Expr} {ifs:List Expr} {scope:Va} {pos:Wi} {it acc:Value} {env:WQ} (I:Nat->Ra->Prop)
  (turn:∀ n s,I n s->Rt (Ru prog w) A (Xh it) (fun r s₁=>match r with
   | none=>R (.ok .next) s₁
   | some v=>Rt (Ru prog w) A (U8 target it v) (fun _ s₀=>Rt (Ru prog w) A (Xz target env v) (fun _ s₂ =>
     Rt (Ru prog w) A (forIn ifs true fun c r=>if r=true then do let ok ← isTrue c env (UG c env); pure (Vk ok) else pure (Vk r)) (fun ok s₃ =>
      if ok=true then Rt (Ru prog w) A (UG elt env) (fun x s₄=>Rt (Ru prog w) A (call (.builtin "list.append") [acc,x]) (fun _ s₅=>∃ m,m < n/\I m s₅) (fun _ _=>False) s₄) (notedBy (Ru prog w) A env fun x s'=>R (.error x) s') s₃
      else ∃ m,m < n/\I m s₃) (fun _ _=>False) s₂) (fun _ _=>False) s₀) (fun _ _=>False) s₁) (fun _ _=>False) s)
  (n:Nat) (h:I n s):T5 (Ru prog w) A (.compLoop (.ListComp elt [⟨target,iter,ifs,0⟩] scope pos) 0 it acc env) R s:=by
 have no:∀ {E:Value->Ra->Prop} (x:Value) (s':Ra),(fun (_:Value) (_:Ra)=>False) x s'->E x s':=fun _ _ z=>z.elim
 refine Zk rfl I (fun n s hI=>?_) n h
 refine (show Rt (Ru prog w) A ((Zj (.ListComp elt [⟨target,iter,ifs,0⟩] scope pos) 0 it acc env).onRaise (fun x=>do U4 x env; Yj x)) _ _ s from ZS ?_)
 rw[compTurn_list]
 refine Q9 (UW (Q9 (Su (turn n s hI) (fun r s₁ h₁=>?_) no)))
 cases r with
 | none=>exact Rj h₁
 | some v =>
  refine Q9 (Su h₁ (fun _ s₀ h₀=>Q9 (Su h₀ (fun _ s₂ h₂=>Q9 (Su h₂ (fun ok s₃ h₃=>?_) no)) no)) no)
  cases ok with
  | false=>exact Rj ⟨rfl,h₃⟩
  | true=>exact Q9 (Q9 (Su h₃ (fun x s₄ h₄=>Q9 (Su h₄ (fun _ s₅ h₅=>Rj (Rj ⟨rfl,h₅⟩)) no)) fun _ _ z=>z))
section
variable {X:Cx} {elt tg iter:Expr} {ifs:List Expr} {scope:Va} {pos:Wi} {L F:List Str} {cap:List Nat} {wi:TI} {g:TG} {tt:TT} {te:TE}
theorem Dl {cl:List (Str × Addr)} {pins:List (Addr × U3)} {σ:St} {s2:Ra} {H2:Hp} {it:Addr} {fp:List Addr} {tn:Nat->Tf->Prop} {J:It} {use:Option (Value->Sem Unit)} {QQ:Value->Ra->Prop} {Z:Hp->Prop} {EE:XK}
  (stk:X.stack=X.env::X.outer/\X.env.frame=some X.env.locals) (hex:X.ex=[])
  (hxe:∀ e s',Rt (Ru X.prog X.w) X.A (leaving X.env e) (fun _ s2=>XL X.prog X.w X.outer X.H₀ X.s₀ EE e s2) (fun e2 s2=>XL X.prog X.w X.outer X.H₀ X.s₀ EE e2 s2) s'->X.xe e s')
  (hc:X.calm=true) (ok:jP X scope F cap)
  (sub:∀ n c,cl.lookup n=some c->X.env.cells.lookup n=some c) (all:∀ y∈scope.names,y.2 = .free->∃ c,cl.lookup y.1=some c)
  (hg:∀ cl C s H fp,PG (aZ X scope cl C (L++F) s H fp) tg g) (ht:∀ cl C s H fp,PTs (aZ X scope cl C (L++F) s H fp) ifs tt) (he:∀ cl C s H fp W,Passes (XL X.prog X.w) ((aZ X scope cl C (L++F) s H fp).wish W) EE->PE ((aZ X scope cl C (L++F) s H fp).wish W) elt te)
  (I2:Inv X pins σ H2 s2) (T:Turn X.prog X.w X.K tg J fp it tn) (st2:tn 0 s2.heap) (f2:∀ b∈fp,sU X pins H2 b)
  (q2:fZ s2.heap.objs.size (Fg L.length cap σ) J g tt te H2 Z)
  (fin:∀ (C:Addr) (s':Ra) (H':Hp),Z H'->Inv X pins σ H' s'->(∃ m,s'.heap.Ns C m)->H' C=none->C≠X.env.locals->X.s₀.heap.objs.size<=C->(∀ x c,X.env.cells.lookup x=some c->c≠C)->(∀ p∈X.pn++pins,p.1≠C) →
   Wk (Ru X.prog X.w) X.A X.xe use QQ (.ref s2.heap.objs.size) C (.ok .next) s') :
  Rt (Ru X.prog X.w) X.A (newList []) (fun acc s₃=>Rt (Ru X.prog X.w) X.A (newFunctionEnv scope X.env.globals cl [] X.env.qual none .none (some X.env)) (fun cenv s₄ =>
   T5 (Ru X.prog X.w) X.A (.compStart (.ListComp elt [⟨tg,iter,ifs,0⟩] scope pos) 0 (.ref it) acc { cenv with scope:=relabel scope X.env }) (Wk (Ru X.prog X.w) X.A X.xe use QQ acc cenv.locals) s₄) E s₃) E s2:=by
 have hD:H2 s2.heap.objs.size=none:=I2.fresh
 refine SN (Xa ok.cell (by intro y hy; simp at hy) (fun h₁ hns₁ hsb₁=>?_) ok.kind)
 dsimp only at hns₁ hsb₁ ⊢
 have I3:Inv X pins σ (upd H2 s2.heap.objs.size (.lst [])) { s2 with heap:=s2.heap.push { cls:=.type "list",data:=.seq ([]:List Value).toArray } }:=I2.M8 (t':=s2.toks) (ys:=[]) (its:=[]) .nil (Sd _)
 have blt:∀ b∈fp,b < s2.heap.objs.size:=fun b hb=>let ⟨_,e,_⟩:=T.obj 0 _ st2 b hb; Ro e
 have szC:(s2.heap.push { cls:=.type "list",data:=.seq ([]:List Value).toArray }).objs.size=s2.heap.objs.size+1:=Uy _ _
 generalize hs3:({ s2 with heap:=s2.heap.push { cls:=.type "list",data:=.seq ([]:List Value).toArray } }:Ra)=s3 at I3
 have es3:s3.heap=s2.heap.push { cls:=.type "list",data:=.seq ([]:List Value).toArray }:=by rw[← hs3]
 have eos:s3.os=s2.os:=by rw[← hs3]
 have fok:∀ b∈fp,sU X pins (upd H2 s2.heap.objs.size (.lst [])) b/\b < s3.heap.objs.size:=fun b hb=>by
  obtain⟨f0,fr⟩:=f2 b hb
  refine⟨⟨by rw[aR (RX (blt b hb))]; exact f0,fr⟩,?_⟩
  rw[es3,szC]
  exact U5 (blt b hb)
 have hkp:∀ b o,s3.heap.get? b=some o->h₁.get? b=some o:=fun b o e=>by
  have e':b < s3.heap.objs.size:=Ro e
  rw[es3] at e e'
  exact (hsb₁.2 b (RX e')).trans (Rb _ e)
 have hns:h₁.Ns s3.heap.objs.size fun _=>none:=by
  rw[es3]
  exact hns₁
 have I4:∀ tk,Inv (aZ X scope cl s3.heap.objs.size (L++F) s3 (upd H2 s2.heap.objs.size (.lst [])) fp) [] (Fg L.length cap σ) (upd H2 s2.heap.objs.size (.lst [])) { s3 with heap:=h₁,toks:=tk }:=fun tk =>
  mQ (L:=L) ok I3 fok sub all hns hkp
 have stat:∀ {H':Hp},(∀ b∈fp,H' b=none)->∀ b∈fp,sU (aZ X scope cl s3.heap.objs.size (L++F) s3 (upd H2 s2.heap.objs.size (.lst [])) fp) [] H' b:=fun {H'} hn b hb=>by
  obtain⟨⟨_,g1,g2,g3,g4,g5⟩,g6⟩:=fok b hb
  exact⟨hn b hb,RX g6,tu I3 g1 g2,.inl hb,fun x c e=>g4 x c (sub x c e),fun p hp=>absurd (show p∈([]:List (Addr × U3)) from hp) (by simp)⟩
 have loop:∀ tk,T5 (Ru X.prog X.w) X.A (.compLoop (.ListComp elt [⟨tg,iter,ifs,0⟩] scope pos) 0 (.ref it) (.ref s2.heap.objs.size) (Xm scope cl s3.heap.objs.size X.env))
   (Wk (Ru X.prog X.w) X.A X.xe use QQ (.ref s2.heap.objs.size) s3.heap.objs.size) { s3 with heap:=h₁,toks:=tk }:=fun tk=>by
  obtain⟨W,⟨m0,w0⟩,turn⟩:=q2
  have st3:tn 0 h₁:=T.keep 0 _ _ st2 fun b hb o e=>hkp b o (by rw[es3]; exact Rb _ e)
  refine xZ (fun n s'=>∃ i ys σ' H',Inv (aZ X scope cl s3.heap.objs.size (L++F) s3 (upd H2 s2.heap.objs.size (.lst [])) fp) [] σ' H' s'/\tn i s'.heap/\(∀ b∈fp,H' b=none)/\W i n ys σ' H') ?_ m0
   ⟨0,[],_,_,I4 tk,st3,fun b hb=>(fok b hb).1.1,w0⟩
  rintro n s5 ⟨i,ys,σ5,H5,I5,st5,fr5,w5⟩
  obtain⟨hDl,alt⟩:=turn i n ys σ5 H5 w5
  rcases alt with⟨stop,qz⟩ | ⟨go,N,hN,step⟩
  ·refine thn (T.done (aZ X scope cl s3.heap.objs.size (L++F) s3 (upd H2 s2.heap.objs.size (.lst [])) fp) rfl rfl rfl hc i [] s5 σ5 H5 _ I5 (stat fr5) st5 stop) fun r s6 ⟨hr,I6⟩=>?_
   subst hr
   have un:Un (frs X.stack) fp H2 H5 s2.heap s6.heap:=by
    have u1:Un (frs X.stack) fp H2 (upd H2 s2.heap.objs.size (.lst [])) s2.heap s3.heap:=by
     rw[es3]
     exact Un.laid (fun _ _ q=>Rb _ q) (Rh _) hD
    exact u1.trans I6.base
   have J1:Inv X pins σ H5 s6:=I2.call' (I6.os.trans eos) un I6.hok I6.bare fun b hb=>by
    obtain⟨_,g1,_,g3,g4,g5⟩:=f2 b hb
    exact⟨g3,g1,g4,g5⟩
   have hC:s2.heap.objs.size<=s3.heap.objs.size:=by rw[es3,szC]; exact Ud _
   obtain⟨m,hm,_⟩:=I6.loc
   refine fin s3.heap.objs.size s6 H5 qz J1 ⟨m,hm⟩ I6.free (Vx (Rm I2.lt hC)) (RP I2.sz hC) (fun x c e z=>?_) (fun p hp z=>?_)
   ·obtain⟨v,q⟩:=I2.cell x c e
    exact absurd (Rm q.lt (by rw[z]; exact hC)) (Sx _)
   ·exact absurd (Rm (Ro (I2.pin p hp).1) (by rw[z]; exact hC)) (Sx _)
  ·refine thn (T.item (aZ X scope cl s3.heap.objs.size (L++F) s3 (upd H2 s2.heap.objs.size (.lst [])) fp) rfl rfl rfl hc i [] s5 σ5 H5 _ I5 (stat fr5) st5 go) fun r s6 ⟨u,hr,h6⟩=>?_
   subst hr
   refine thn h6 fun _ s7 ⟨x,H7,I7,r7,y7,st7,fr7⟩=>?_
   have I7':=I7.pinned (stat fr7) (T.obj _ _ st7)
   refine thn (hg _ _ _ _ _ _ s7 σ5 H7 x u _ I7' r7 (step x H7 y7)) fun _ s8 ⟨σ8,H8,I8,q8⟩=>?_
   have XJ:∀ {σ9:St} {H9:Hp} {s9:Ra} {zs:List V},Inv (aZ X scope cl s3.heap.objs.size (L++F) s3 (upd H2 s2.heap.objs.size (.lst [])) fp) ([]++lK fp s7.heap) σ9 H9 s9->N zs σ9 H9 →
     ∃ m,m < n/\∃ i ys σ' H',Inv (aZ X scope cl s3.heap.objs.size (L++F) s3 (upd H2 s2.heap.objs.size (.lst [])) fp) [] σ' H' s9/\tn i s9.heap/\(∀ b∈fp,H' b=none)/\W i m ys σ' H':=fun {σ9 H9 s9 zs} I9 n9=>by
    obtain⟨m',hm,w9⟩:=hN zs σ9 H9 n9
    refine⟨m',hm,i+1,zs,σ9,H9,I9.iK,T.keep _ _ _ st7 fun b hb o e=>(I9.pin (b,o) (RC _ (RC _ (cN hb e)))).1,fun b hb=>?_,w9⟩
    obtain⟨o,e,d⟩:=T.obj _ _ st7 b hb
    exact (I9.pin (b,o) (RC _ (RC _ (cN hb e)))).2.1
   refine thn (ht _ _ _ _ _ _ s8 σ8 H8 _ I8 q8) fun okb s9 ⟨H9,I9,q9⟩=>?_
   cases okb with
   | false =>
    rw[if_neg Rv] at q9 ⊢
    exact XJ I9 q9
   | true =>
    rw[if_pos rfl] at q9 ⊢
    let Y:=aZ X scope cl s3.heap.objs.size (L++F) s3 (upd H2 s2.heap.objs.size (.lst [])) fp
    let W:Value->Ra->Prop:=fun e s'=>∃ pins' σ' H' s1,Inv Y pins' σ' H' s1/\XL X.prog X.w X.stack H' s1 EE e s'
    refine Su (he cl s3.heap.objs.size s3 (upd H2 s2.heap.objs.size (.lst [])) fp W (fun pins' σ' H' s1 e s' I' hl=>⟨pins',σ',H',s1,I'.jX,hl⟩) _ s9 σ8 H9 _ (I9.wish W) q9) (fun y s10 ⟨yv,H10,I10,r10,e10,z10,n10⟩=>?_) fun e s' ⟨pins',σ',H',s1,I',x',C',dx',H'',B',ee,Li,hE⟩=>?_
    case refine_2 =>
     subst ee
     have un:Un (frs X.stack) fp H2 H' s2.heap s1.heap:=by
      have u1:Un (frs X.stack) fp H2 (upd H2 s2.heap.objs.size (.lst [])) s2.heap s3.heap:=by
       rw[es3]
       exact Un.laid (fun _ _ q=>Rb _ q) (Rh _) hD
      exact u1.trans I'.base
     have J1:Inv X pins σ H' s1:=I2.call' (I'.os.trans eos) un I'.hok I'.bare fun b hb=>by
      obtain⟨_,g1,_,g3,g4,g5⟩:=f2 b hb
      exact⟨g3,g1,g4,g5⟩
     have hC:s2.heap.objs.size<=s3.heap.objs.size:=by rw[es3,szC]; exact Ud _
     obtain⟨m,hm,_⟩:=id I'.loc
     refine Su (Gj (Q:=fun _ _=>False) stk hex hxe J1 Li hE (RP I2.sz hC) ⟨m,hm⟩ I'.free (fun z=>?_) (cenv:=Xm scope cl s3.heap.objs.size X.env) rfl) (fun _ s5' h5=>⟨h5.1.choose,h5.1.choose_spec,fun h' hs cenv _=>h5.2 h' hs cenv⟩) fun _ _ z=>z
     obtain⟨_,o,ho,_⟩:=I2.stack.mem z
     exact Sx _ (Rm (Ro ho) hC)
    have I10:=I10.jX
    refine thn (dw _ s10 σ8 H10 (.ref s2.heap.objs.size) [yv] (.ref s2.heap.objs.size) [y] (fun _ H'=>N (ys++[yv]) σ8 H') I10 rfl (.cons r10 .nil) ⟨_,ys,yv,rfl,rfl,e10,z10,n10⟩) fun _ s11 ⟨_,H11,I11,_,n11⟩=>?_
    exact XJ I11 n11
 have eC:(s2.heap.push { cls:=.type "list",data:=.seq ([]:List Value).toArray }).objs.size=s3.heap.objs.size:=by rw[es3]
 have goal:∀ tk,T5 (Ru X.prog X.w) X.A (.compStart (.ListComp elt [⟨tg,iter,ifs,0⟩] scope pos) 0 (.ref it) (.ref s2.heap.objs.size) (Xm scope cl s3.heap.objs.size X.env))
   (Wk (Ru X.prog X.w) X.A X.xe use QQ (.ref s2.heap.objs.size) s3.heap.objs.size) { s3 with heap:=h₁,toks:=tk }:=fun tk =>
  XX (loop tk) (T.self _ 0 _ _ _ (T.keep 0 _ _ st2 fun b hb o e=>hkp b o (by rw[es3]; exact Rb _ e)) (loop tk))
 have g0:=goal (s2.toks+([]:List (Str × Value)).length)
 subst hs3
 exact g0
theorem uM {EE:XK} (stk:X.stack=X.env::X.outer/\X.env.frame=some X.env.locals) (hex:X.ex=[])
  (hxe:∀ e s',Rt (Ru X.prog X.w) X.A (leaving X.env e) (fun _ s2=>XL X.prog X.w X.outer X.H₀ X.s₀ EE e s2) (fun e2 s2=>XL X.prog X.w X.outer X.H₀ X.s₀ EE e2 s2) s'->X.xe e s')
  (hc:X.calm=true) (ok:jP X scope F cap) (hi:PI X tg iter wi)
  (hg:∀ cl C s H fp,PG (aZ X scope cl C (L++F) s H fp) tg g) (ht:∀ cl C s H fp,PTs (aZ X scope cl C (L++F) s H fp) ifs tt)
  (he:∀ cl C s H fp W,Passes (XL X.prog X.w) ((aZ X scope cl C (L++F) s H fp).wish W) EE->PE ((aZ X scope cl C (L++F) s H fp).wish W) elt te)
  (hs:∀ x,Uu iter X.env x=pure x:=by intro _; rfl):PE X (.ListComp elt [⟨tg,iter,ifs,0⟩] scope pos) (Oa L.length cap wi g tt te):=by
 intro pins s σ H Q I h
 obtain⟨cl,e1,e2,e3⟩:=qN (scope:=scope) (env:=X.env) (fun y hy hf=>I.ok.has _ (ok.fr y hy hf))
 rw[eval_ListComp]
 refine Wj (use:=none) rfl hs e1 ok.kind ok.nms (thn (hi pins s σ H _ I h) fun v s1 h1=>thn h1 fun itv s2 h2=>?_)
 obtain⟨it,fp,tn,J,H2,e,I2,T,st2,f2,q2⟩:=h2
 subst e
 refine Dl (Z:=fun H'=>Q (.ref s2.heap.objs.size) H') stk hex hxe hc ok e2 e3 hg ht he I2 T st2 f2 (q2 _ I2.fresh) fun C s' H' z J m hCf hCl hCs hCc hCp=>?_
 ·obtain⟨m,hm⟩:=m
  exact⟨m,hm,fun h' hs'=>⟨.ref _,H',J.turned (t':=s'.toks) (fun b o hb e=>(hs'.2 b hb).trans e) hCf hCl (.inr hCs) hCc hCp,rfl,z⟩⟩
end
end L2
namespace L2
open PySem PySem.Spec PyProof.Rows
section
variable {X:Cx}
def PL (f1 f2:Addr) (sp1 sp2:Sp) (E:XK) (te:TE) (t:TA):TE:=fun σ H Q=>te σ H fun x H1=>(x = .ref f1/\t σ H1 fun vs H2=>sp1 vs H2 Q E)∨(x = .ref f2/\t σ H1 fun vs H2=>sp2 vs H2 Q E)
theorem Kz {CX:CXT} {k1 k2 j:Nat} {f1 f2:Addr} {fd1 fd2:Tp} {ps1 ps2:List Str} {sp1 sp2:Sp} {E:XK} {x:Str} {e:Expr} {es:List Expr} {p pos:Wi} {te:TE} {t:TA} (F1:dB X.prog X.w X.K X.mg X.base CX k1 f1 fd1 ps1 sp1) (F2:dB X.prog X.w X.K X.mg X.base CX k2 f2 fd2 ps2 sp2)
  (K1:W.keepIn X.K (.ref f1)=true) (K2:W.keepIn X.K (.ref f2)=true) (b1:Binds X.K fd1 ps1 []) (b2:Binds X.K fd2 ps2 []) (hr:gB j X.A) (h1:k1<=j) (h2:k2<=j) (hx:Passes CX X E) (hf:PE X (.Name x p) te) (ha:PA X (e::es) t)
  (he:R9 (e::es) X.env=(false,UG e X.env)::R9 es X.env:=by rfl) (hpl:(We pos (R9 es X.env)).any (·.1)=false:=by rfl):PE X (.Call (.Name x p) (e::es) [] pos) (PL f1 f2 sp1 sp2 E te t):=by
 intro pins s σ H Q I h
 refine Uk (thn (hf pins s σ H _ I h) fun u s1 ⟨v,H1,I1,r1,q1⟩=>?_)
 rcases q1 with⟨ex,q⟩ | ⟨ex,q⟩
 ·subst ex
  cases r1
  refine Wq (h₀:=X.base) I.ok.mod.kin K1 (thn (ha pos pins s1 σ H1 _ I1 q) fun us s2 ⟨vs,H2,I2,r,q2⟩=>⟨I2.kIn,?_⟩) he hpl
  exact yp F1 (hr.mono h1) b1 .nil hx I2 r (by rw[Ss]; exact q2)
 ·subst ex
  cases r1
  refine Wq (h₀:=X.base) I.ok.mod.kin K2 (thn (ha pos pins s1 σ H1 _ I1 q) fun us s2 ⟨vs,H2,I2,r,q2⟩=>⟨I2.kIn,?_⟩) he hpl
  exact yp F2 (hr.mono h2) b2 .nil hx I2 r (by rw[Ss]; exact q2)
def pN (i:Str) (n:Nat):Str:=⟨(Rq n i.cps).foldl (·++·) #[]⟩
theorem long {n:Nat} (h:n<=100000):PySem.Builtin.Str.tooLong n=false:=decide_eq_false (by unfold PySem.sizeLine; lia)
def yq:R2:=fun x y H Q=>∃ (i:Str) (n:Nat),x = .str i/\y = .int (n:Int)/\i.length=1/\2<=n/\n<=100000/\Q (.str (pN i n)) H
theorem uI:OpR X (VB .Mult) yq:=by
 intro pins s σ H x y v u Q I rx ry h
 obtain⟨i,n,rfl,rfl,h1,n2,n9,q⟩:=h
 obtain⟨t,rfl⟩:=rx
 obtain⟨t',rfl⟩:=ry
 have hn:¬ ((n:Int) < 1):=by lia
 have hz:(((n:Int) == 1 || i.length == 0))=false:=by
  rw[h1,Bool.or_eq_false_iff]
  exact⟨by rw[beq_eq_false_iff_ne]; lia,by decide⟩
 refine PySem.P.mul_str ?_ (fun _ _=>?_) (fun _ _=>?_) ?_
 ·rw[Bool.or_eq_false_iff]
  exact⟨decide_eq_false (by lia),decide_eq_false (by lia)⟩
 ·rw[h1]
  have:(2 ^ 63 - 1) / (n:Int) ≥ 1:=Int.le_ediv_of_mul_le (by lia) (by lia)
  lia
 ·rw[h1,Th,Yz]
  exact long n9
 ·rw[if_neg hn,if_neg (by rw[hz]; decide),Th]
  refine⟨PySem.fits_reps (by rw[h1,Yz]; exact long n9),⟨.str (pN i n),H,I.tok _,⟨_,rfl⟩,q⟩⟩
end
end L2
namespace My
open PySem L2
variable {P:RV} {w:Sv} {K:R7} {mg:Str->Option Value} {base:Tf} {f:Addr} {fd:Tp}
def top (i:Nat):Stmt:=PySem.Challenge.pw_loveboon_k47_texts_that_write_no_term.main.body.getD i (.Pass ⟨0,0,0,0⟩)
theorem az {H:Hp} {p:Addr} (h:H p=none) (o:HO):bc H (upd H p o):=fun b u q=>by rw[aR (cP q h)]; exact q
theorem aY {H H':Hp} {p:Addr} (s:bc H H') (h:H p=none) (o:HO):bc H (upd H' p o):=fun b u q=>by rw[aR (cP q h)]; exact s b u q
theorem Bl {K:R7} {H H':Hp} {a:Addr} {xs:List V} (e:bc H H') (h:SqT K H a xs):SqT K H' a xs:=by
 rcases h with (h | ⟨o,h⟩) | h
 ·exact .inl (.inl (e _ _ h))
 ·exact .inl (.inr ⟨o,e _ _ h⟩)
 ·exact .inr h
theorem Ca {H:Hp} {p:Addr} {o o':HO}:upd (upd H p o) p o'=upd H p o':=by
 funext b
 unfold upd
 by_cases e:b=p
 ·rw[if_pos e,if_pos e]
 ·rw[if_neg e,if_neg e,if_neg e]
theorem small {n:Nat} (h:n<=1000):n<=sizeLine:=Vn (bj h)
theorem int_at {ns:List Int} {i:Nat} {x:V} (h:(ns.map V.int)[i]? = some x):∃ n,ns[i]? = some n/\x = .int n:=by
 rw[Rz] at h
 cases e:ns[i]? with
 | none=>rw[e] at h; cases h
 | some n=>rw[e] at h; exact⟨n,rfl,(RQ h).symm⟩
theorem tX {α β:Type} (f:α->β) {xs:List α} {i:Nat} {x:α} (h:xs[i]? = some x):(xs.take i).map f++[f x]=(xs.take (i+1)).map f:=by
 rw[SJ,h,Rx]
 rfl
theorem gT {i:Nat} {x:V} {σ:St} {H:Hp} {A B:St->Hp->Prop} (h:A (σ.set i (some x)) H):pI i x σ H (fun σ3 H3=>Ax σ3 H3 (fun b H4=>if b=true then A σ3 H4 else B σ3 H4)):=by
 show if true=true then A (σ.set i (some x)) H else B (σ.set i (some x)) H
 rw[if_pos rfl]
 exact h
theorem aH {H H1:Hp} {p:Addr} {o:HO} (e:upd H p o=H1) (h:H p=none):bc H H1/\H1 p=some o:=by
 subst e
 exact⟨az h _,aj⟩
theorem aF {xs:List V} {k:Nat} {v:V} (h:xs[k]? = some v):atI xs (k:Int)=some v:=iI h
theorem d9 {ns:List Int} {k:Nat} {n:Int} (h:ns[k]? = some n):(ns.map V.int)[k]? = some (.int n):=by rw[Rz,h]; rfl
theorem tT {σ:St} {H:Hp} {A B:Hp->Prop} (h:A H):Ax σ H (fun b H4=>if b=true then A H4 else B H4):=by
 show if true=true then A H else B H
 rw[if_pos rfl]
 exact h
theorem qP:∀ ns:List Int,jb (ns.map Dm.int)=0
 | []=>by simp [jb]
 | n::r=>by simp [jb,Dm.dep,qP r]
def vN (i:Nat):V:=.int (i:Int)
theorem mY (c:List Nat):c.map vN=(c.map fun i:Nat=>(i:Int)).map V.int:=by rw[Vq]; rfl
theorem Bg {c:List Nat} {j:Nat} {x:V} (h:(c.map vN)[j]? = some x):∃ i,c[j]? = some i/\x=vN i:=by
 rw[Rz] at h
 cases e:c[j]? with
 | none=>rw[e] at h; cases h
 | some i=>rw[e] at h; exact⟨i,rfl,(RQ h).symm⟩
theorem eO {H:Hp} {D:Addr} {zs zs':List V} (h:H D=some (.lst zs)):∀ a xs,H a=some (HO.tup xs)->upd H D (.lst zs') a=some (HO.tup xs):=fun a xs q=>by
 rw[aR (fun z=>by rw[z,h] at q; cases q)]
 exact q
theorem Dr {α:Type} {xs:List α} {v:α} (h:xs[xs.length - 1]? = some v):atI xs (-1)=some v:=by
 have hl:xs.length - 1 < xs.length:=(List.getElem?_eq_some_iff.mp h).1
 have hne:xs≠[]:=fun z=>by rw[z] at hl; exact absurd hl (Sx _)
 have e:xs=xs.dropLast++[v]:=by
  rw[← List.getLast?_eq_getElem?,List.getLast?_eq_some_getLast hne] at h
  rw[← RQ h]
  exact (List.dropLast_concat_getLast hne).symm
 rw[e]
 exact Hk _ _
section
variable {X:Cx} {a b:Expr} {ta tb:TE} {pos:Wi} {op:ZZ} {r:R2}
end
section
variable {x qual:Str} {st:Stmt} {N ps:List Str} {k:Nat} {sp:Sp}
end
section
variable {X:Cx} {a b:Expr} {ta tb:TE} {pos:Wi}
end
section
variable {X:Cx} {a b c:Expr} {ta tb tc:TE} {pos:Wi} {x y z:Str} {p q r:Wi}
theorem a1 (ha:PE X a ta) (hs:R9 [a] X.env=(false,UG a X.env)::R9 [] X.env:=by rfl):PA X [a] (oO ta Fz):=aa ha ao hs
theorem a2 (ha:PE X a ta) (hb:PE X b tb) (hs:R9 [a,b] X.env=(false,UG a X.env)::R9 [b] X.env:=by rfl) (ht:R9 [b] X.env=(false,UG b X.env)::R9 [] X.env:=by rfl):PA X [a,b] (oO ta (oO tb Fz)):=aa ha (a1 hb ht) hs
end
abbrev kW:Stmt:=top 34
theorem cu:aV ["_law_cell","_law_parts","_law_one","_law_two","_law_six","_law_found","_law_part"] ["_law_cell","_law_parts"] (aB kW):=⟨rfl,rfl,rfl,by decide+kernel,rfl,by decide+kernel,by decide+kernel⟩
def uJ (c:Int):Int:=(c * 48271+11) % 2147483647
def Ge (c:Int):Int:=(uJ c * uJ c+40692 * uJ c+c) % 2147483399
def PN (c:Int):Int:=(Ge c * 16807+uJ c) % 1000000007
def nD (c:Int):Int:=if decide ((if c < 0 then -c else c) < 10 ^ (18:Int).toNat)=true then Ge c+2147483399 * (PN c+1000000007 * uJ c) else (if c < 0 then -c else c) - 10 ^ (18:Int).toNat
def uO:Int->List Int->List Int
 | _,[]=>[]
 | c,p::ps=>c % p::uO (c / p) ps
def divC:Int->List Int->Int
 | c,[]=>c
 | c,p::ps=>divC (c / p) ps
theorem pO (p:Int):∀ (ps:List Int) (c:Int),uO c (ps++[p])=uO c ps++[divC c ps % p]
 | [],_=>rfl
 | q::ps,c=>by
  show c % q::uO (c / q) (ps++[p])=c % q::(uO (c / q) ps++[divC (c / q) ps % p])
  rw[pO p ps]
theorem lQ (p:Int):∀ (ps:List Int) (c:Int),divC c (ps++[p])=divC c ps / p
 | [],_=>rfl
 | q::ps,c=>lQ p ps (c / q)
theorem j7:∀ (ps:List Int) (c:Int),(uO c ps).length=ps.length
 | [],_=>rfl
 | _::ps,_=>congrArg Nat.succ (j7 ps _)
theorem cG:∀ {ps:List Int} {c:Int} {i:Nat} {p:Int},(∀ q∈ps,0 < q)->ps[i]? = some p->∃ v,(uO c ps)[i]? = some v/\0<=v/\v < p
 | [],_,_,_,_,h=>by simp at h
 | q::ps,c,0,p,hp,h=>by
  cases (show some q=some p from h)
  exact⟨c % q,rfl,Sy _ (by have:=hp q Rc; lia),Sg _ (hp q Rc)⟩
 | q::ps,c,i+1,p,hp,h=>by
  obtain⟨v,e,r⟩:=cG (ps:=ps) (c:=c / q) (i:=i) (fun z hz=>hp z (Ri _ hz)) (by simpa using h)
  exact⟨v,by simpa [uO] using e,r⟩
def Nz (c:Int) (ps:List Int):List Int:=uO (nD c) ps
theorem Kh (c:Int):0<=uJ c/\uJ c < 2147483647:=⟨Sy _ (by decide),Sg _ (by decide)⟩
theorem Jk (c:Int):0<=Ge c/\Ge c < 2147483399:=⟨Sy _ (by decide),Sg _ (by decide)⟩
def qe (K:R7):Sp:=fun vs H Q _=>∃ (c:Int) (p:Addr) (ps:List Int),vs=[.int c,.ref p]/\SqL K H p (ps.map V.int)/\(∀ q∈ps,0 < q/\q < 1073741824)/\ps.length<=1000 ∧
 ∀ r,H r=none->Q (.ref r) (upd H r (.lst ((Nz c ps).map V.int)))
theorem wG (F:Fun K "_law_draws" "_law_draws" kW f fd) (B:Bt mg) :
  dB P w K mg base CX0 1 f fd ["_law_cell","_law_parts"] (qe K):=by
 refine F.ok cu (fun vs H Q E h=>?_) (fun cdv A outer s H vs Q E hr h=>?_)
 ·obtain⟨c,p,ps,rfl,_⟩:=h
  rfl
 ·obtain⟨c,p,ps,rfl,hS,hp,hl,q⟩:=h
  refine⟨_,(au (bu (aD uN (aG pq rfl B.abs_ zJ (aa (pv 0) ao)) (aL sS aq aq) (aK _)) (au (aU (i:=2) cu.nd rfl (RJ rfl) (aL di (aL bK (aL jU (pv 0) aq) aq) aq))
 (au (aU (i:=3) cu.nd rfl (RJ rfl) (aL di (aL bK (aL bK (aL jU (pv 2) (pv 2)) (aL jU aq (pv 2))) (pv 0)) aq))
 (au (aU (i:=4) cu.nd rfl (RJ rfl) (aL di (aL bK (aL jU (pv 3) aq) (pv 2)) aq))
 (aA (aU (i:=0) cu.nd rfl (RJ rfl) (aL bK (pv 3) (aL jU aq (aL bK (pv 4) (aL jU aq (pv 2)))))))))) (aA (aU (i:=0) cu.nd rfl (RJ rfl) (aL gQ (aG pq rfl B.abs_ zJ (aa (pv 0) ao)) (aL sS aq aq)))))
 (au (aU (i:=5) cu.nd rfl (RJ rfl) (cj ao))
 (au (gC TX rfl (fD (pv 1)) (aN (i:=6) cu.nd rfl (RJ rfl)) (au (iG (gA Uo Ui Uh dw (pv 5) (aa (aL di (pv 0) (pv 6)) ao)))
 (aA (aU (i:=0) cu.nd rfl (RJ rfl) (aL xQ (pv 0) (pv 6))))))
 (aA (aJ (pv 5)))))),?_⟩
  have b1:=Kh c
  have b2:=Jk c
  refine⟨_,rfl,_,rfl,_,_,rfl,rfl,⟨by decide,by decide,by decide⟩,_,_,rfl,rfl,_,rfl,?_⟩
  refine jG (fun h=>?_) (fun h=>?_)
  ·refine⟨_,rfl,_,_,rfl,rfl,.inr ⟨by decide,by decide⟩,_,_,rfl,rfl,_,_,rfl,rfl,(by show (0:Int) < 2147483647; decide),?_⟩
   refine⟨_,rfl,_,rfl,_,_,rfl,rfl,.inl (show -(2 ^ 64) < uJ c/\uJ c < 2 ^ 64 from ⟨by lia,by lia⟩),_,rfl,_,_,rfl,rfl,.inl ⟨by decide,by decide⟩,_,_,rfl,rfl,_,rfl,_,_,rfl,rfl,_,_,rfl,rfl,(by show (0:Int) < 2147483399; decide),?_⟩
   refine⟨_,rfl,_,_,rfl,rfl,.inr ⟨by decide,by decide⟩,_,rfl,_,_,rfl,rfl,_,_,rfl,rfl,(by show (0:Int) < 1000000007; decide),?_⟩
   refine⟨_,rfl,_,rfl,_,rfl,_,_,rfl,rfl,.inl ⟨by decide,by decide⟩,_,_,rfl,rfl,_,_,rfl,rfl,.inl ⟨by decide,by decide⟩,_,_,rfl,rfl,?_⟩
   refine⟨small (Sd _),fun r hr0=>?_⟩
   refine⟨_,rfl,p,rfl,⟨_,(az hr0 _).seq hS⟩,o5 (K:=K) (a:=p) (xs:=ps.map V.int) (fun i σ H2=>∃ (z:Int) (o t u v:Option V),z=divC (nD c) (ps.take i)/\σ=[some (.int z),some (.ref p),o,t,u,some (.ref r),v] ∧
    H2=upd H r (.lst ((uO (nD c) (ps.take i)).map V.int))) ⟨_,_,_,_,_,(if_pos h).symm,rfl,rfl⟩ ?_ ?_ ?_⟩
   ·rintro i σ H2 hi ⟨z,o,t,u,v,_,_,e⟩
    subst e
    exact (az hr0 _).seq hS
   ·rintro i x σ H2 hx ⟨z,o,t,u,v,ez,rfl,rfl⟩
    obtain⟨d,hd,rfl⟩:=int_at hx
    obtain⟨h1,h2⟩:=hp d (RL hd)
    have et:ps.take (i+1)=ps.take i++[d]:=by rw[SJ,hd]; rfl
    refine⟨_,rfl,.inl ⟨rfl,_,SqL.of aj⟩,_,rfl,_,rfl,_,_,rfl,rfl,h1,r,_,_,rfl,rfl,aj,?_,_,rfl,_,rfl,_,_,rfl,rfl,⟨h1,h2⟩,_,_,_,_,_,?_,rfl,?_⟩
    ·rw[Q8,j7,RN]
     exact bj (by lia)
    ·rw[et,lQ,ez]
    ·rw[Ca,et,pO,Rx,ez]
     rfl
   ·rintro σ H2 ⟨z,o,t,u,v,_,rfl,rfl⟩
    refine⟨_,rfl,?_⟩
    have q':=q r hr0
    rw[Q8,R6]
    exact q'
  ·refine⟨_,rfl,_,rfl,_,_,rfl,rfl,⟨by decide,by decide,by decide⟩,_,_,rfl,rfl,?_⟩
   refine⟨small (Sd _),fun r hr0=>?_⟩
   refine⟨_,rfl,p,rfl,⟨_,(az hr0 _).seq hS⟩,o5 (K:=K) (a:=p) (xs:=ps.map V.int) (fun i σ H2=>∃ (z:Int) (o t u v:Option V),z=divC (nD c) (ps.take i)/\σ=[some (.int z),some (.ref p),o,t,u,some (.ref r),v] ∧
    H2=upd H r (.lst ((uO (nD c) (ps.take i)).map V.int))) ⟨_,_,_,_,_,(if_neg h).symm,rfl,rfl⟩ ?_ ?_ ?_⟩
   ·rintro i σ H2 hi ⟨z,o,t,u,v,_,_,e⟩
    subst e
    exact (az hr0 _).seq hS
   ·rintro i x σ H2 hx ⟨z,o,t,u,v,ez,rfl,rfl⟩
    obtain⟨d,hd,rfl⟩:=int_at hx
    obtain⟨h1,h2⟩:=hp d (RL hd)
    have et:ps.take (i+1)=ps.take i++[d]:=by rw[SJ,hd]; rfl
    refine⟨_,rfl,.inl ⟨rfl,_,SqL.of aj⟩,_,rfl,_,rfl,_,_,rfl,rfl,h1,r,_,_,rfl,rfl,aj,?_,_,rfl,_,rfl,_,_,rfl,rfl,⟨h1,h2⟩,_,_,_,_,_,?_,rfl,?_⟩
    ·rw[Q8,j7,RN]
     exact bj (by lia)
    ·rw[et,lQ,ez]
    ·rw[Ca,et,pO,Rx,ez]
     rfl
   ·rintro σ H2 ⟨z,o,t,u,v,_,rfl,rfl⟩
    refine⟨_,rfl,?_⟩
    have q':=q r hr0
    rw[Q8,R6]
    exact q'
abbrev m5:Stmt:=top 35
theorem xq:aV ["_law_found","_law_due"] ["_law_found","_law_due"] (aB m5):=⟨rfl,rfl,rfl,by decide+kernel,rfl,by decide+kernel,by decide+kernel⟩
def sY (n:Nat):Sp:=fun vs H Q _=>∃ (x y:V) (d:Dm),vs=[x,y]/\Rep H x d/\Rep H y d/\d.dep < n/\∀ H',bc H H'->Q (.bl true) H'
theorem Pa {x:V}:decide (x=x)=true:=decide_eq_true rfl
theorem yL (n:Nat):(Rq n true).all (fun b=>b)=true:=by
 induction n with
 | zero=>rfl
 | succ n ih=>rw[Tz,Wl,ih]; rfl
theorem yR (n:Nat):(Rq n true).map V.bl=Rq n (V.bl true):=List.map_replicate
theorem bA {n:Nat} (F:Fun K "_law_same" "_law_same" m5 f fd) (B:Bt mg)
  (D_law_same:Df P w K mg base "_law_same" n ["_law_found","_law_due"] (sY n)):dB P w K mg base CX0 (n+1) f fd ["_law_found","_law_due"] (sY (n+1)):=by
 refine F.ok xq (fun vs H Q E h=>?_) (fun cdv A outer s H vs Q E hr h=>?_)
 ·obtain⟨x,y,d,rfl,_⟩:=h
  rfl
 ·obtain⟨x,y,d,rfl,rx,ry,hd,q⟩:=h
  refine⟨_,(au (bu (sE (pR (pv 1))) (aA (aJ (Iw (pR (pv 0))))) aM)
 (au (bu (dq (aG (r:=uP K) cz rfl B.isinstance_ aW (aa (pv 1) (aa (jB B.str_ n6) ao)))) (aA (aJ (eV (aG (r:=uP K) cz rfl B.isinstance_ aW (aa (pv 0) (aa (jB B.str_ n6) ao))) (jW (cR cD (pv 0) (pv 1) (aK _)))))) aM)
 (au (bu (dq (aG (r:=uP K) cz rfl B.isinstance_ aW (aa (pv 1) (aa (jB B.int_ jR) ao)))) (aA (aJ (eV (aG (r:=uP K) cz rfl B.isinstance_ aW (aa (pv 0) (aa (jB B.int_ jR) ao))) (eV (cR cD (aG (r:=uP K) cz rfl B.isinstance_ aW (aa (pv 0) (aa (jB B.bool_ xH) ao))) (aG (r:=uP K) cz rfl B.isinstance_ aW (aa (pv 1) (aa (jB B.bool_ xH) ao))) (aK _)) (jW (cR cD (pv 0) (pv 1) (aK _))))))) aM)
 (au (bu (PW.pt (dW (aD rM (aG (r:=uP K) cz rfl B.isinstance_ aW (aa (pv 1) (aa (jB B.list_ xT) ao))) (aG (r:=uP K) cz rfl B.isinstance_ aW (aa (pv 0) (aa (jB B.list_ xT) ao))) (aK _)) (dY (aD rM (aG (r:=uP K) cz rfl B.isinstance_ aW (aa (pv 1) (aa (jB B.tuple_ bJ) ao))) (aG (r:=uP K) cz rfl B.isinstance_ aW (aa (pv 0) (aa (jB B.tuple_ bJ) ao))) (aK _))))) (aA (aJ lr)) aM)
 (aA (aJ (eV (cR cD (aG (r:=nZ K) bf rfl B.len_ bW (aa (pv 0) ao)) (aG (r:=nZ K) bf rfl B.len_ bW (aa (pv 1) ao)) (aK _)) (jW (aG (r:=El K) (lE rfl) rfl B.all_ zg (aa (eG (L:=["_law_k"]) (F:=["_law_found","_law_due"]) (cap:=[0,1]) rfl (bU rfl rfl (by kernel_rfl)) (eU rfl B.range_ (aa (aG (r:=nZ K) bf rfl B.len_ bW (aa (pv 1) ao)) ao)) (fun _ _ _ _ _=>(aN (i:=0) (bM (by decide+kernel)) rfl (RJ rfl))) (fun _ _ _ _ _=>cF) (fun _ _ _ _ _=>(bF D_law_same hr (aa (aQ (r:=rIx K) Ij (pv 1) (pv 0) (fun _ _=>rfl)) (aa (aQ (r:=rIx K) Ij (pv 2) (pv 0) (fun _ _=>rfl)) ao))))) ao)))))))))),?_⟩
  cases rx with
  | non =>
   cases ry
   refine⟨_,rfl,_,rfl,bR ?_⟩
   exact⟨_,rfl,q H (bc.refl H)⟩
  | bl b =>
   cases ry
   refine⟨_,rfl,_,rfl,dF ?_⟩
   refine⟨_,rfl,_,_,_,_,rfl,.bl b,xU _,_,rfl,dF ?_⟩
   refine⟨_,rfl,_,_,_,_,rfl,.bl b,pK _,_,rfl,bR ?_⟩
   refine⟨_,rfl,_,_,_,_,rfl,.bl b,pK _,_,rfl,bR ?_⟩
   refine⟨_,rfl,_,_,_,_,rfl,.bl b,jO _ _,_,rfl,_,_,_,_,rfl,.bl b,jO _ _,rfl,_,rfl,bR ?_⟩
   refine⟨_,rfl,_,rfl,rfl,?_⟩
   have q':=q H (bc.refl H)
   rw[← Pa (x:=V.bl b)] at q'
   exact q'
  | int i =>
   cases ry
   refine⟨_,rfl,_,rfl,dF ?_⟩
   refine⟨_,rfl,_,_,_,_,rfl,.int i,Aq _,_,rfl,dF ?_⟩
   refine⟨_,rfl,_,_,_,_,rfl,.int i,jO _ _,_,rfl,bR ?_⟩
   refine⟨_,rfl,_,_,_,_,rfl,.int i,jO _ _,_,rfl,bR ?_⟩
   refine⟨_,rfl,_,_,_,_,rfl,.int i,j0 _,_,rfl,_,_,_,_,rfl,.int i,j0 _,rfl,_,rfl,bR ?_⟩
   refine⟨_,rfl,_,rfl,rfl,?_⟩
   have q':=q H (bc.refl H)
   rw[← Pa (x:=V.int i)] at q'
   exact q'
  | str z =>
   cases ry
   refine⟨_,rfl,_,rfl,dF ?_⟩
   refine⟨_,rfl,_,_,_,_,rfl,.str z,jO _ _,_,rfl,bR ?_⟩
   refine⟨_,rfl,_,_,_,_,rfl,.str z,jO _ _,_,rfl,bR ?_⟩
   refine⟨_,rfl,_,rfl,rfl,?_⟩
   have q':=q H (bc.refl H)
   rw[← Pa (x:=V.str z)] at q'
   exact q'
  | @tup a xs ds ha la ra =>
   cases ry with
   | @tup b ys _ hb lb rb =>
    have ex:=ra.length
    have ey:=rb.length
    have hdl:jb ds < n:=by
     have hd':jb ds+1 < n+1:=by rw[Dm.dep] at hd; exact hd
     lia
    refine⟨_,rfl,_,rfl,dF ?_⟩
    refine⟨_,rfl,_,_,_,_,rfl,.tup hb,uX _,_,rfl,dF ?_⟩
    refine⟨_,rfl,_,_,_,_,rfl,.tup hb,nR _,_,rfl,dF ?_⟩
    refine⟨_,rfl,_,_,_,_,rfl,.tup hb,lC _,_,rfl,_,_,_,_,rfl,.tup ha,lC _,rfl,_,rfl,dF ?_⟩
    refine⟨_,rfl,_,_,_,_,rfl,.tup hb,jO _ _,_,rfl,_,_,_,_,rfl,.tup ha,jO _ _,rfl,_,rfl,dF ?_⟩
    refine⟨_,rfl,a,_,rfl,.inr (SqT.of ha),_,rfl,b,_,rfl,.inr (SqT.of hb),rfl,_,rfl,?_⟩
    have ec:decide (V.int (xs.length:Int)=V.int (ys.length:Int))=true:=decide_eq_true (by rw[ex,ey])
    rw[ec]
    refine bR ?_
    refine⟨_,rfl,b,_,rfl,.inr (SqT.of hb),_,rfl,by lia,by lia,fun D hD=>ig (lo:=0) (n:=ys.length) (fun i zs σ' H2=>(∃ v,σ'=[v,some (.ref a),some (.ref b)])/\zs=Rq i (V.bl true)/\bc H H2/\H2 D=some (.lst zs))
     ⟨⟨_,rfl⟩,rfl,az hD _,aj⟩ (fun i zs σ' H2 _ h=>h.2.2.2) ?_ ?_⟩
    ·rintro i zs σ' H2 hi ⟨⟨v,rfl⟩,rfl,sm,hDl⟩
     obtain⟨v1,d1,e1,e2,r1⟩:=ra.get (i:=i) (by lia)
     obtain⟨v2,d2,e3,e4,r2⟩:=rb.get (i:=i) hi
     rw[e2] at e4
     cases e4
     have at1:atI xs (0+(i:Int))=some v1:=by rw[Xk]; exact iI e1
     have at2:atI ys (0+(i:Int))=some v2:=by rw[Xk]; exact iI e3
     refine gT ?_
     refine⟨_,rfl,_,rfl,.inr (.inl ⟨a,xs,_,v1,rfl,rfl,SqT.of (sm _ _ ha),at1,_,rfl,_,rfl,.inr (.inl ⟨b,ys,_,v2,rfl,rfl,SqT.of (sm _ _ hb),at2,v1,v2,d1,rfl,r1.mono sm,r2.mono sm,?_,fun H3 s3=>⟨s3 _ _ hDl,?_,⟨_,rfl⟩,?_,aY (sm.trans s3) hD _,aj⟩⟩)⟩)⟩
     ·exact Sw (oU e2) hdl
     ·rw[UJ]
      exact Rm (show i < 100000 by lia) (by decide)
     ·rw[YB]
    ·rintro zs σ' H2 ⟨_,rfl,sm,hDl⟩
     refine⟨D,Rq ys.length true,rfl,SqL.of (by rw[hDl,yR]),?_⟩
     rw[yL]
     exact q _ sm
  | @lst a xs ds ha la ra =>
   cases ry with
   | @lst b ys _ hb lb rb =>
    have ex:=ra.length
    have ey:=rb.length
    have hdl:jb ds < n:=by
     have hd':jb ds+1 < n+1:=by rw[Dm.dep] at hd; exact hd
     lia
    refine⟨_,rfl,_,rfl,dF ?_⟩
    refine⟨_,rfl,_,_,_,_,rfl,.lst hb,wV _,_,rfl,dF ?_⟩
    refine⟨_,rfl,_,_,_,_,rfl,.lst hb,yl _,_,rfl,dF ?_⟩
    refine⟨_,rfl,_,_,_,_,rfl,.lst hb,jO _ _,_,rfl,_,_,_,_,rfl,.lst ha,jO _ _,rfl,_,rfl,dF ?_⟩
    refine⟨_,rfl,_,_,_,_,rfl,.lst hb,lV _,_,rfl,_,_,_,_,rfl,.lst ha,lV _,rfl,_,rfl,dF ?_⟩
    refine⟨_,rfl,a,_,rfl,.inl (SqL.of ha),_,rfl,b,_,rfl,.inl (SqL.of hb),rfl,_,rfl,?_⟩
    have ec:decide (V.int (xs.length:Int)=V.int (ys.length:Int))=true:=decide_eq_true (by rw[ex,ey])
    rw[ec]
    refine bR ?_
    refine⟨_,rfl,b,_,rfl,.inl (SqL.of hb),_,rfl,by lia,by lia,fun D hD=>ig (lo:=0) (n:=ys.length) (fun i zs σ' H2=>(∃ v,σ'=[v,some (.ref a),some (.ref b)])/\zs=Rq i (V.bl true)/\bc H H2/\H2 D=some (.lst zs))
     ⟨⟨_,rfl⟩,rfl,az hD _,aj⟩ (fun i zs σ' H2 _ h=>h.2.2.2) ?_ ?_⟩
    ·rintro i zs σ' H2 hi ⟨⟨v,rfl⟩,rfl,sm,hDl⟩
     obtain⟨v1,d1,e1,e2,r1⟩:=ra.get (i:=i) (by lia)
     obtain⟨v2,d2,e3,e4,r2⟩:=rb.get (i:=i) hi
     rw[e2] at e4
     cases e4
     have at1:atI xs (0+(i:Int))=some v1:=by rw[Xk]; exact iI e1
     have at2:atI ys (0+(i:Int))=some v2:=by rw[Xk]; exact iI e3
     refine gT ?_
     refine⟨_,rfl,_,rfl,.inl ( ⟨a,xs,_,v1,rfl,rfl,SqL.of (sm _ _ ha),at1,_,rfl,_,rfl,.inl ( ⟨b,ys,_,v2,rfl,rfl,SqL.of (sm _ _ hb),at2,v1,v2,d1,rfl,r1.mono sm,r2.mono sm,?_,fun H3 s3=>⟨s3 _ _ hDl,?_,⟨_,rfl⟩,?_,aY (sm.trans s3) hD _,aj⟩⟩)⟩)⟩
     ·exact Sw (oU e2) hdl
     ·rw[UJ]
      exact Rm (show i < 100000 by lia) (by decide)
     ·rw[YB]
    ·rintro zs σ' H2 ⟨_,rfl,sm,hDl⟩
     refine⟨D,Rq ys.length true,rfl,SqL.of (by rw[hDl,yR]),?_⟩
     rw[yL]
     exact q _ sm
theorem same_none:dB P w K mg base CX0 0 f fd ["_law_found","_law_due"] (sY 0):=by
 have no:∀ vs H Q E,¬ sY 0 vs H Q E:=fun vs H Q E h=>by
  obtain⟨x,y,d,_,_,_,h1,_⟩:=h
  lia
 exact⟨fun vs H Q E h=>absurd h (no vs H Q E),fun A outer s H args us vs Q E _ _ _ _ h=>absurd h (no vs H Q E)⟩
abbrev km:Stmt:=top 37
theorem gU:aV ["_law_cell","_law_k","_law_rest","_law_turn"] ["_law_cell","_law_k"] (aB km):=⟨rfl,rfl,rfl,by decide+kernel,rfl,by decide+kernel,by decide+kernel⟩
def Jr (c:Int) (k:Nat):Int:=if decide ((if c < 0 then -c else c) < 10 ^ (18:Int).toNat)=true then (c * 48271+7919 * (k:Int)+13) % 2147483647 else 10 ^ (18:Int).toNat+divC ((if c < 0 then -c else c) - 10 ^ (18:Int).toNat) (Rq (k+1) (10 ^ (9:Int).toNat))
def uK:Sp:=fun vs H Q _=>∃ (c:Int) (k:Nat),vs=[.int c,.int (k:Int)]/\k<=1000/\Q (.int (Jr c k)) H
theorem vL (F:Fun K "_law_under" "_law_under" km f fd) (B:Bt mg) :
  dB P w K mg base CX0 1 f fd ["_law_cell","_law_k"] uK:=by
 refine F.ok gU (fun vs H Q E h=>?_) (fun cdv A outer s H vs Q E hr h=>?_)
 ·obtain⟨c,k,rfl,_⟩:=h
  rfl
 ·obtain⟨c,k,rfl,hk,q⟩:=h
  refine⟨_,(au (bu (aD uN (aG pq rfl B.abs_ zJ (aa (pv 0) ao)) (aL sS aq aq) (aK _)) (aA (aJ (aL di (aL bK (aL bK (aL jU (pv 0) aq) (aL jU aq (pv 1))) aq) aq))) aM)
 (au (aU (i:=2) gU.nd rfl (RJ rfl) (aL gQ (aG pq rfl B.abs_ zJ (aa (pv 0) ao)) (aL sS aq aq)))
 (au (gC TX rfl (eU rfl B.range_ (aa (aL bK (pv 1) aq) ao)) (aN (i:=3) gU.nd rfl (RJ rfl)) (aA (aU (i:=2) gU.nd rfl (RJ rfl) (aL xQ (pv 2) (aL sS aq aq)))))
 (aA (aJ (aL bK (aL sS aq aq) (pv 2))))))),?_⟩
  refine⟨_,rfl,_,rfl,_,_,rfl,rfl,⟨by decide,by decide,by decide⟩,_,_,rfl,rfl,_,rfl,?_⟩
  refine jG (fun h=>?_) (fun h=>?_)
  ·refine⟨_,rfl,_,_,rfl,rfl,.inr ⟨by decide,by decide⟩,_,rfl,_,_,rfl,rfl,.inl ⟨by decide,by decide⟩,_,_,rfl,rfl,_,_,rfl,rfl,_,_,rfl,rfl,(by show (0:Int) < 2147483647; decide),?_⟩
   unfold Jr at q
   rw[if_pos h] at q
   exact q
  ·unfold Jr at q
   rw[if_neg h] at q
   refine⟨_,rfl,_,rfl,_,_,rfl,rfl,⟨by decide,by decide,by decide⟩,_,_,rfl,rfl,?_⟩
   have ek:((k:Int)+1).toNat=k+1:=by lia
   refine⟨_,rfl,_,_,rfl,rfl,_,rfl,by lia,by lia,lJ (lo:=0) (n:=((k:Int)+1).toNat) (fun i σ H2=>(∃ t:Option V,σ=[some (.int c),some (.int (k:Int)),some (.int (divC ((if c < 0 then -c else c) - 10 ^ (18:Int).toNat) (Rq i (10 ^ (9:Int).toNat)))),t])/\H2=H) ⟨⟨_,rfl⟩,rfl⟩ ?_ ?_⟩
   ·rintro i σ H2 hi ⟨⟨t,rfl⟩,rfl⟩
    refine⟨_,rfl,_,_,rfl,rfl,⟨by decide,by decide,by decide⟩,_,_,rfl,rfl,⟨by show (0:Int) < 10 ^ 9; decide,by show (10 ^ 9:Int) < 1073741824; decide⟩,⟨some (.int (0+(i:Int))),?_⟩,rfl⟩
    rw[YB,lQ]
    rfl
   ·rintro σ H2 ⟨⟨t,rfl⟩,rfl⟩
    refine⟨_,_,rfl,rfl,⟨by decide,by decide,by decide⟩,_,rfl,_,_,rfl,rfl,?_⟩
    rw[ek]
    exact q
abbrev j5:Stmt:=top 38
theorem gM:aV ["_law_number_here","_law_n","_law_found","_law_one"] ["_law_number_here","_law_n"] (aB j5):=⟨rfl,rfl,rfl,by decide+kernel,rfl,by decide+kernel,by decide+kernel⟩
def xP:Sp:=fun vs H Q _=>∃ (m:Int) (n:Nat),vs=[.int m,.int (n:Int)]/\n<=100/\∀ (c:List Nat) (r:Addr) (H':Hp),(∀ i∈c,i < n)->c.Pairwise (· < ·)->c.length<=n->bc H H'->H r=none->H' r=some (.tup (c.map vN))->Q (.ref r) H'
theorem uR (F:Fun K "_law_crowd" "_law_crowd" j5 f fd) (B:Bt mg) :
  dB P w K mg base CX0 1 f fd ["_law_number_here","_law_n"] xP:=by
 refine F.ok gM (fun vs H Q E h=>?_) (fun cdv A outer s H vs Q E hr h=>?_)
 ·obtain⟨m,n,rfl,_⟩:=h
  rfl
 ·obtain⟨m,n,rfl,hn,q⟩:=h
  refine⟨_,(au (aU (i:=2) gM.nd rfl (RJ rfl) (cj ao))
 (au (gC TX rfl (eU rfl B.range_ (aa (pv 1) ao)) (aN (i:=3) gM.nd rfl (RJ rfl)) (au (bu (aD cD (aL di (pv 0) aq) aq (aK _)) (aA (iG (gA Uo Ui Uh dw (pv 2) (aa (pv 3) ao)))) aM)
 (aA (aU (i:=0) gM.nd rfl (RJ rfl) (aL xQ (pv 0) aq)))))
 (aA (aJ (aX (r:=gq K) bD rfl B.tuple_ bJ (aa (pv 2) ao)))))),?_⟩
  refine⟨small (by show 0<=1000; decide),fun r hr0=>?_⟩
  have en:((n:Int)).toNat=n:=Th n
  refine⟨_,rfl,_,rfl,by lia,by lia,lJ (lo:=0) (n:=((n:Int)).toNat) (fun i σ H2=>∃ (z:Int) (t:Option V) (c:List Nat),σ=[some (.int z),some (.int (n:Int)),some (.ref r),t]/\H2=upd H r (.lst (c.map vN))/\(∀ j∈c,j < i)/\c.Pairwise (· < ·)/\c.length<=i)
   ⟨_,_,[],rfl,rfl,by simp,by simp,Rh _⟩ ?_ ?_⟩
  ·rintro i σ H2 hi ⟨z,t,c,rfl,rfl,hc,hp,hl⟩
   refine⟨_,rfl,_,_,rfl,rfl,(by show (0:Int) < 2; decide),rfl,_,rfl,?_⟩
   refine jG (fun _=>?_) (fun _=>?_)
   ·refine⟨_,rfl,.inl ⟨rfl,_,SqL.of aj⟩,_,rfl,r,_,_,rfl,rfl,aj,?_,_,rfl,_,_,rfl,rfl,⟨by decide,by decide⟩,_,_,c++[i],rfl,?_,?_,?_,?_⟩
    ·rw[Q8]
     exact bj (by lia)
    ·rw[Ca,Rx,Xk]
     rfl
    ·intro j hj
     rcases List.mem_append.mp hj with h | h
     ·have:=hc j h
      lia
     ·have:=List.mem_singleton.mp h
      lia
    ·rw[List.pairwise_append]
     refine⟨hp,by simp,fun a ha b hb=>?_⟩
     rw[List.mem_singleton.mp hb]
     exact hc a ha
    ·rw[Rf]
     show c.length+1<=i+1
     lia
   ·refine⟨_,rfl,_,_,rfl,rfl,⟨by decide,by decide⟩,_,_,c,rfl,rfl,fun j hj=>U5 (hc j hj),hp,by lia⟩
  ·rintro σ H2 ⟨z,t,c,rfl,rfl,hc,hp,hl⟩
   refine⟨_,rfl,r,_,rfl,.inl ⟨SqL.of aj,fun l hl'=>?_⟩⟩
   rw[en] at hc hl
   exact q c l _ hc hp hl ((az hr0 _).trans (az hl' _)) ((az hr0 _).free hl') aj
inductive Tm where
 | free | never | gives (i:Nat) (k:Int) | sum (c:List Nat) (k:Int) | crowd (c:List Nat) (k m:Int) | all (ts:List Tm) | any (ts:List Tm)
mutual
def Tm.dep:Tm->Nat
 | .all ts=>tdL ts+1
 | .any ts=>tdL ts+1
 | _=>1
def tdL:List Tm->Nat
 | []=>0
 | t::r=>max t.dep (tdL r)
end
mutual
inductive jg (n:Nat) (H:Hp):V->Tm->Prop where
 | free {a:Addr}:H a=some (.tup [.str "free"])->jg n H (.ref a) .free
 | never {a:Addr}:H a=some (.tup [.str "never"])->jg n H (.ref a) .never
 | gives {a:Addr} {i:Nat} {k:Int}:H a=some (.tup [.str "gives",vN i,.int k])->i < n->1<=k->k<=9->jg n H (.ref a) (.gives i k)
 | sum {a b:Addr} {c:List Nat} {k:Int}:H a=some (.tup [.str "sum",.ref b,.int k])->H b=some (.tup (c.map vN))->(∀ i∈c,i < n)->c.Pairwise (· < ·)->c.length<=20->2<=c.length->1<=k->k<=99->jg n H (.ref a) (.sum c k)
 | crowd {a b:Addr} {c:List Nat} {k m:Int}:H a=some (.tup [.str "crowd",.ref b,.int k,.int m])->H b=some (.tup (c.map vN))->(∀ i∈c,i < n)->c.Pairwise (· < ·)->c.length<=20->1<=c.length->1<=k->k<=9->1<=m->m<=12->jg n H (.ref a) (.crowd c k m)
 | all {a b:Addr} {vs:List V} {ts:List Tm}:H a=some (.tup [.str "all",.ref b])->H b=some (.tup vs)->2<=vs.length->vs.length<=6->cM n H vs ts->jg n H (.ref a) (.all ts)
 | any {a b:Addr} {vs:List V} {ts:List Tm}:H a=some (.tup [.str "any",.ref b])->H b=some (.tup vs)->2<=vs.length->vs.length<=6->cM n H vs ts->jg n H (.ref a) (.any ts)
inductive cM (n:Nat) (H:Hp):List V->List Tm->Prop where
 | nil:cM n H [] []
 | cons {v:V} {t:Tm} {vs:List V} {ts:List Tm}:jg n H v t->cM n H vs ts->cM n H (v::vs) (t::ts)
end
mutual
theorem jg.eY {n:Nat} {H H':Hp} (e:∀ a xs,H a=some (HO.tup xs)->H' a=some (HO.tup xs)):∀ {v:V} {t:Tm},jg n H v t->jg n H' v t
 | _,_,.free h=>.free (e _ _ h)
 | _,_,.never h=>.never (e _ _ h)
 | _,_,.gives h a b c=>.gives (e _ _ h) a b c
 | _,_,.sum h h2 a b c d f g=>.sum (e _ _ h) (e _ _ h2) a b c d f g
 | _,_,.crowd h h2 a b c d f g i j=>.crowd (e _ _ h) (e _ _ h2) a b c d f g i j
 | _,_,.all h h2 a b r=>.all (e _ _ h) (e _ _ h2) a b (cM.eY e r)
 | _,_,.any h h2 a b r=>.any (e _ _ h) (e _ _ h2) a b (cM.eY e r)
theorem cM.eY {n:Nat} {H H':Hp} (e:∀ a xs,H a=some (HO.tup xs)->H' a=some (HO.tup xs)):∀ {vs:List V} {ts:List Tm},cM n H vs ts->cM n H' vs ts
 | _,_,.nil=>.nil
 | _,_,.cons h r=>.cons (jg.eY e h) (cM.eY e r)
end
theorem jg.mono {n:Nat} {H H':Hp} (e:bc H H') {v:V} {t:Tm} (h:jg n H v t):jg n H' v t:=h.eY fun a xs q=>e a _ q
theorem cM.mono {n:Nat} {H H':Hp} (e:bc H H') {vs:List V} {ts:List Tm} (h:cM n H vs ts):cM n H' vs ts:=h.eY fun a xs q=>e a _ q
theorem cM.length {n:Nat} {H:Hp}:∀ {vs:List V} {ts:List Tm},cM n H vs ts->vs.length=ts.length
 | _,_,.nil=>rfl
 | _,_,.cons _ r=>by rw[Rg,Rg,cM.length r]
theorem cM.get {n:Nat} {H:Hp}:∀ {vs:List V} {ts:List Tm} {i:Nat} {v:V},cM n H vs ts->vs[i]? = some v->∃ t,ts[i]? = some t/\jg n H v t
 | _,_,_,_,.nil,h=>by simp at h
 | _,_,0,_,.cons h _,e=>by
  cases (show some _=some _ from e)
  exact⟨_,rfl,h⟩
 | _,_,i+1,_,.cons _ r,e=>by
  obtain⟨t,e1,e2⟩:=cM.get (i:=i) r (by simpa using e)
  exact⟨t,by simpa using e1,e2⟩
theorem cM.snoc {n:Nat} {H:Hp}:∀ {vs:List V} {ts:List Tm} {v:V} {t:Tm},cM n H vs ts->jg n H v t->cM n H (vs++[v]) (ts++[t])
 | _,_,_,_,.nil,h=>.cons h .nil
 | _,_,_,_,.cons a r,h=>.cons a (cM.snoc r h)
theorem qI:∀ {ts:List Tm} {i:Nat} {t:Tm},ts[i]? = some t->t.dep<=tdL ts
 | [],_,_,h=>by simp at h
 | d::r,0,_,h=>by
  cases (show some d=some _ from h)
  rw[tdL]
  exact Nat.le_max_left _ _
 | d::r,i+1,_,h=>by
  rw[tdL]
  exact RP (qI (i:=i) (ts:=r) (by simpa using h)) (Nat.le_max_right _ _)
theorem yt {m:Nat} {t:Tm} (h:t.dep<=m):∀ {ts:List Tm},tdL ts<=m->tdL (ts++[t])<=m
 | [],_=>by simp only[TF,tdL]; lia
 | d::r,h2=>by
  rw[tdL] at h2
  rw[Tg,tdL]
  have:=yt (m:=m) h (ts:=r) (by lia)
  lia
theorem Tm.m8:∀ t:Tm,1<=t.dep
 | .free | .never | .gives .. | .sum .. | .crowd ..=>Rh 1
 | .all ts=>by rw[Tm.dep]; lia
 | .any ts=>by rw[Tm.dep]; lia
theorem dU {c A B:Prop} [Decidable c] (hc:¬ c) (h:B):if decide c=true then A else B:=by
 rw[decide_eq_false hc]
 exact dF h
theorem lY {c A B:Prop} [Decidable c] (hc:c) (h:A):if decide c=true then A else B:=by
 rw[decide_eq_true hc]
 exact bR h
theorem bZ {a b:Str} (h:a≠b):¬ V.str a=V.str b:=fun z=>h (by cases z; rfl)
theorem nF {t u:TS} {D:Ends} {σ:St} {H:Hp} (P:St->Hp->Prop) (h2:∀ σ H,P σ H->u D σ H) (h1:(∀ σ H,P σ H->u D σ H)->t { D with nx:=u D } σ H):xf t u D σ H:=h1 h2
theorem tZ {A B:TT} {t u:TS} {D:Ends} {σ:St} {H:Hp} (b1 b2:Bool) (R:Hp->Prop) (hA:∀ Q:Bool->Hp->Prop,(∀ H1,R H1->Q b1 H1)->A σ H Q) (hB:∀ H1,R H1->∀ Q:Bool->Hp->Prop,Q b2 H1->B σ H1 Q)
  (ht:∀ H1,R H1->b1=true->b2=true->t D σ H1) (hu:∀ H1,R H1->(b1=true->b2=false)->u D σ H1):Bb (Qq A B) t u D σ H:=by
 refine hA _ fun H1 r1=>?_
 show if b1=true then B σ H1 (fun b H2=>if b=true then t D σ H2 else u D σ H2) else (if false=true then t D σ H1 else u D σ H1)
 cases b1 with
 | false=>exact dF (dF (hu H1 r1 fun z=>by cases z))
 | true =>
  refine bR (hB H1 r1 _ ?_)
  cases b2 with
  | false=>exact dF (hu H1 r1 fun _=>rfl)
  | true=>exact bR (ht H1 r1 rfl rfl)
theorem gN {i:Nat} {x:V} {σ:St} {H:Hp} {P:St->Hp->Prop} (h:P (σ.set i (some x)) H):pI i x σ H P:=h
theorem nN {D:Ends} {σ:St} {H:Hp} (h:D.nx σ H):Jt D σ H:=h
theorem Hz {A B:TT} {t u:TS} {D:Ends} {σ:St} {H:Hp} (b1 b2:Bool) (hA:∀ Q:Bool->Hp->Prop,Q b1 H->A σ H Q) (hB:b1=false->∀ Q:Bool->Hp->Prop,Q b2 H->B σ H Q)
  (ht:(b1 || b2)=true->t D σ H) (hu:(b1 || b2)=false->u D σ H):Bb (tOr A B) t u D σ H:=by
 refine hA _ ?_
 show if b1=true then (if true=true then t D σ H else u D σ H) else B σ H (fun b H2=>if b=true then t D σ H2 else u D σ H2)
 cases b1 with
 | true=>exact bR (bR (ht rfl))
 | false =>
  refine dF (hB rfl _ ?_)
  cases b2 with
  | true=>exact bR (ht rfl)
  | false=>exact dF (hu rfl)
theorem Iu (n k:Nat):decide (V.int (n:Int)=V.int (k:Int))=decide (n=k):=by
 by_cases h:n=k
 ·rw[decide_eq_true h,decide_eq_true (by rw[h])]
 ·rw[decide_eq_false h,decide_eq_false (fun z=>h (by cases z; rfl))]
abbrev nH:Stmt:=top 39
theorem fP:aV ["_law_cell","_law_n","_law_deep","_law_most","_law_drawn","_law_parts","_law_crowd_here"] ["_law_cell","_law_n","_law_deep","_law_most"] (aB nH):=⟨rfl,rfl,rfl,by decide+kernel,rfl,by decide+kernel,by decide+kernel⟩
def pH (d:Nat):Sp:=fun vs H Q _=>∃ (c:Int) (n:Nat) (deep most:Int),vs=[.int c,.int (n:Int),.int deep,.int most]/\1<=n/\n<=12/\1<=deep/\deep<=(d:Int)/\1<=most/\most<=9 ∧
 ∀ (v:V) (t:Tm) (H':Hp),bc H H'->jg n H' v t->(t.dep:Int)<=deep->Q v H'
theorem term_none:dB P w K mg base CX0 1 f fd ["_law_cell","_law_n","_law_deep","_law_most"] (pH 0):=by
 have no:∀ vs H Q E,¬ pH 0 vs H Q E:=fun vs H Q E h=>by
  obtain⟨c,n,deep,most,_,_,_,h1,h2,_⟩:=h
  lia
 exact⟨fun vs H Q E h=>absurd h (no vs H Q E),fun A outer s H args us vs Q E _ _ _ _ h=>absurd h (no vs H Q E)⟩
theorem iJ {d:Nat} (F:Fun K "_law_term" "_law_term" nH f fd) (B:Bt mg)
  (D_law_draws:Df P w K mg base "_law_draws" 1 ["_law_cell","_law_parts"] (qe K)) (D_law_under:Df P w K mg base "_law_under" 1 ["_law_cell","_law_k"] uK) (D_law_crowd:Df P w K mg base "_law_crowd" 1 ["_law_number_here","_law_n"] xP)
  (D_law_term:Df P w K mg base "_law_term" (d+1) ["_law_cell","_law_n","_law_deep","_law_most"] (pH d)):dB P w K mg base CX0 (d+2) f fd ["_law_cell","_law_n","_law_deep","_law_most"] (pH (d+1)):=by
 refine F.ok fP (fun vs H Q E h=>?_) (fun cdv A outer s H vs Q E hr h=>?_)
 ·obtain⟨c,n,deep,most,rfl,_⟩:=h
  rfl
 ·obtain⟨c,n,deep,most,rfl,n1,n12,de1,ded,m1,m9,q⟩:=h
  refine⟨_,(au (aU (i:=4) fP.nd rfl (RJ rfl) (bF D_law_draws hr (aa (pv 0) (aa (cj (aa aq (aa aq (aa aq (aa aq (aa aq ao)))))) ao))))
 (au (bu (PW.pt (nU (aD uN (aQ (r:=d8 K) aO (pv 4) aq (fun _ _=>rfl)) aq (aK _)) (ji (aD uG (pv 2) aq (aK _))))) (au (qW (L:=["_law_k"]) (F:=["_law_n","_law_most","_law_cell","_law_deep"]) (cap:=[1,3,0,2]) (j:=5) fP.nd rfl (RJ rfl) rfl (bU rfl rfl (by kernel_rfl)) (eU rfl B.range_ (aa (aL bK aq (aL di (aQ (r:=d8 K) aO (pv 4) aq (fun _ _=>rfl)) aq)) ao)) (fun _ _ _ _ _=>(aN (i:=0) (bM (by decide+kernel)) rfl (RJ rfl))) (fun _ _ _ _ _=>cF) (fun _ _ _ _ _=>(bF D_law_term hr (aa (bF D_law_under hr (aa (pv 3) (aa (pv 0) ao))) (aa (pv 1) (aa (aL gQ (pv 4) aq) (aa (pv 2) ao)))))))
 (aA (aJ (bh (aa (aQ (r:=d8 K) aO (cj (aa aC (aa aC ao))) (aQ (r:=d8 K) aO (pv 4) aq (fun _ _=>rfl)) (fun _ _=>rfl)) (aa (aX (r:=gq K) bD rfl B.tuple_ bJ (aa (pv 5) ao)) ao)))))) aM)
 (au (aU (i:=6) fP.nd rfl (RJ rfl) (bF D_law_crowd hr (aa (aQ (r:=d8 K) aO (pv 4) aq (fun _ _=>rfl)) (aa (pv 1) ao))))
 (au (bu (aD (r:=Nt K) (K6 hr.pQ) (pv 6) (bh ao) (aK _)) (aA (aU (i:=6) fP.nd rfl (RJ rfl) (bh (aa (aL di (aQ (r:=d8 K) aO (pv 4) aq (fun _ _=>rfl)) (pv 1)) ao)))) aM)
 (au (bu (PW.pt (nU (aD (r:=rIn K false) fQ (aQ (r:=d8 K) aO (pv 4) aq (fun _ _=>rfl)) (bh (aa aq (aa aq ao))) rfl) (ji (aD uG (aG (r:=nZ K) bf rfl B.len_ bW (aa (pv 6) ao)) aq (aK _))))) (aA (aJ (bh (aa aC (aa (pv 6) (aa (aL bK aq (aL di (aL bK (aL jU aq (aQ (r:=d8 K) aO (pv 4) aq (fun _ _=>rfl))) (aQ (r:=d8 K) aO (pv 4) aq (fun _ _=>rfl))) (aG (uT rfl) rfl B.min_ HQ (aa aq (aa (aL jU (pv 3) (aG (r:=nZ K) bf rfl B.len_ bW (aa (pv 6) ao))) ao))))) ao)))))) aM)
 (au (bu (aD cD (aQ (r:=d8 K) aO (pv 4) aq (fun _ _=>rfl)) aq (aK _)) (aA (aJ (bh (aa aC (aa (pv 6) (aa (aL bK aq (aL di (aQ (r:=d8 K) aO (pv 4) aq (fun _ _=>rfl)) (pv 3))) (aa (aL bK aq (aL di (aQ (r:=d8 K) aO (pv 4) aq (fun _ _=>rfl)) (aG (r:=nZ K) bf rfl B.len_ bW (aa (pv 6) ao)))) ao))))))) aM)
 (au (bu (aD cD (aQ (r:=d8 K) aO (pv 4) aq (fun _ _=>rfl)) aq (aK _)) (aA (aJ (bh (aa (aQ (r:=d8 K) aO (cj (aa aC (aa aC (aa aC ao)))) (aL di (aQ (r:=d8 K) aO (pv 4) aq (fun _ _=>rfl)) aq) (fun _ _=>rfl)) ao)))) aM)
 (aA (aJ (bh (aa aC (aa (aL di (aQ (r:=d8 K) aO (pv 4) aq (fun _ _=>rfl)) (pv 1)) (aa (aL bK aq (aL di (aQ (r:=d8 K) aO (pv 4) aq (fun _ _=>rfl)) (pv 3))) ao))))))))))))),?_⟩
  refine⟨_,rfl,small (by show 5<=1000; decide),fun p1 h1=>?_⟩
  generalize eH1:upd H p1 _=H1
  obtain⟨g1,e1⟩:=aH eH1 h1
  refine⟨c,p1,[9,12,9,4096,12],rfl,SqL.of e1,by decide,by decide,fun p2 h2=>?_⟩
  generalize eH2:upd H1 p2 _=H2
  obtain⟨g2,e2⟩:=aH eH2 h2
  have hps:∀ q∈([9,12,9,4096,12]:List Int),0 < q:=by decide
  obtain⟨d0,k0,b0⟩:=cG (c:=nD c) (i:=0) hps rfl
  obtain⟨d1,k1,b1⟩:=cG (c:=nD c) (i:=1) hps rfl
  obtain⟨d2,k2,b2⟩:=cG (c:=nD c) (i:=2) hps rfl
  obtain⟨d3,k3,b3⟩:=cG (c:=nD c) (i:=3) hps rfl
  obtain⟨d4,k4,b4⟩:=cG (c:=nD c) (i:=4) hps rfl
  have a0:=aF (d9 k0)
  have a1:=aF (d9 k1)
  have a2:=aF (d9 k2)
  have a3:=aF (d9 k3)
  have a4:=aF (d9 k4)
  change _=some (HO.lst ((uO (nD c) [9,12,9,4096,12]).map V.int)) at e2
  generalize uO (nD c) [9,12,9,4096,12]=ds at *
  have gH:bc H H2:=g1.trans g2
  refine gN ?_
  dsimp only
  show xf (Bb _ _ _) _ _ _ _
  refine nF (fun σ H3=>σ=[some (.int c),some (.int (n:Int)),some (.int deep),some (.int most),some (.ref p2),none,none]/\H2=H3) ?rest (fun R=>?_)
  case rest =>
   rintro σ H3 ⟨rfl,rfl⟩
   refine⟨_,rfl,p2,_,_,_,rfl,rfl,SqL.of e2,a3,_,rfl,d3,n,rfl,by lia,fun cs r3 H3 hc hp hl s3 f3 e3=>?_⟩
   refine gN ?_
   dsimp only
   show xf (Bb _ _ _) _ _ _ _
   refine nF (fun σ H5=>∃ (rc:Addr) (cs:List Nat),σ=[some (.int c),some (.int (n:Int)),some (.int deep),some (.int most),some (.ref p2),none,some (.ref rc)]/\bc H2 H5/\H5 rc=some (.tup (cs.map vN))/\(∀ i∈cs,i < n)/\cs.Pairwise (· < ·)/\cs.length<=n/\1<=cs.length) ?rest2 (fun R=>?_)
   case rest2 =>
    rintro σ H5 ⟨rc,cs,rfl,s5,e5,hc,hp,hl,h1l⟩
    have e2':=s5 _ _ e2
    have lenr:((cs.map vN).length:Int)=(cs.length:Int):=by rw[Q8]
    show xf (Bb _ _ _) _ _ _ _
    refine nF (fun σ H6=>σ=[some (.int c),some (.int (n:Int)),some (.int deep),some (.int most),some (.ref p2),none,some (.ref rc)]/\bc H5 H6) ?rest3 (fun R=>?_)
    case rest3 =>
     rintro σ H6 ⟨rfl,s6⟩
     have e2':=s6 _ _ e2'
     have e5:=s6 _ _ e5
     have s56:bc H H6:=gH.trans (s5.trans s6)
     refine⟨_,rfl,p2,_,_,_,rfl,rfl,SqL.of e2',a0,rfl,_,rfl,?_⟩
     refine jG (fun _=>?_) (fun _=>?_)
     ·refine⟨_,rfl,_,rfl,p2,_,_,_,rfl,rfl,SqL.of e2',a2,_,rfl,_,_,rfl,rfl,(by show (0:Int) < most; lia),_,_,rfl,rfl,?_⟩
      refine⟨_,rfl,p2,_,_,_,rfl,rfl,SqL.of e2',a4,_,rfl,rc,_,rfl,.inr (SqT.of e5),_,_,rfl,rfl,?_,_,_,rfl,rfl,small (by show 4<=1000; decide),fun p7 h7=>?_⟩
      ·rw[lenr]
       lia
      ·have u1:0<=d2 % most:=Sy _ (by lia)
       have u2:d2 % most < most:=Sg _ (by lia)
       have u3:0<=d4 % ((cs.map vN).length:Int):=Sy _ (by rw[lenr]; lia)
       have u4:d4 % ((cs.map vN).length:Int) < (cs.length:Int):=by
        have:=Sg d4 (b:=((cs.map vN).length:Int)) (by rw[lenr]; lia)
        rw[lenr] at this ⊢
        exact this
       refine q (.ref p7) (.crowd cs (1+d2 % most) (1+d4 % ((cs.map vN).length:Int))) _ (s56.trans (az h7 _)) (.crowd aj (az h7 _ _ _ e5) hc hp (by lia) h1l (by lia) (by lia) (by lia) (by lia)) ?_
       exact de1
     ·refine⟨_,rfl,p2,_,_,_,rfl,rfl,SqL.of e2',a0,rfl,_,rfl,?_⟩
      refine jG (fun _=>?_) (fun _=>?_)
      ·refine⟨small (by show 3<=1000; decide),fun p7 h7=>?_⟩
       generalize eH7:upd H6 p7 _=H7
       obtain⟨g7,e7⟩:=aH eH7 h7
       have u1:0<=d1 % 3:=Sy _ (by lia)
       have u2:d1 % 3 < 3:=Sg _ (by lia)
       have fin:∀ p8 (x:Str),H7 p8=none->(x = "free"∨x = "never")->Q (.ref p8) (upd H7 p8 (.tup [.str x])):=fun p8 x h8 hx=>by
        rcases hx with rfl | rfl
        ·refine q (.ref p8) .free _ (s56.trans (g7.trans (az h8 _))) (.free aj) ?_
         exact de1
        ·refine q (.ref p8) .never _ (s56.trans (g7.trans (az h8 _))) (.never aj) ?_
         exact de1
       refine⟨_,rfl,p2,_,_,_,rfl,rfl,SqL.of (g7 _ _ e2'),a1,_,_,rfl,rfl,(by show (0:Int) < 3; decide),?_⟩
       rcases (show d1 % 3=0∨d1 % 3=1∨d1 % 3=2 by lia) with z | z | z
       ·exact⟨p7,_,_,_,rfl,rfl,SqL.of e7,by rw[z]; rfl,small (by show 1<=1000; decide),fun p8 h8=>fin p8 _ h8 (.inl rfl)⟩
       ·exact⟨p7,_,_,_,rfl,rfl,SqL.of e7,by rw[z]; rfl,small (by show 1<=1000; decide),fun p8 h8=>fin p8 _ h8 (.inl rfl)⟩
       ·exact⟨p7,_,_,_,rfl,rfl,SqL.of e7,by rw[z]; rfl,small (by show 1<=1000; decide),fun p8 h8=>fin p8 _ h8 (.inr rfl)⟩
      ·have u1:0<=d1 % (n:Int):=Sy _ (by lia)
       have u2:d1 % (n:Int) < (n:Int):=Sg _ (by lia)
       have u3:0<=d2 % most:=Sy _ (by lia)
       have u4:d2 % most < most:=Sg _ (by lia)
       refine⟨_,rfl,p2,_,_,_,rfl,rfl,SqL.of e2',a1,_,rfl,_,_,rfl,rfl,(by show (0:Int) < (n:Int); lia),?_⟩
       refine⟨_,rfl,p2,_,_,_,rfl,rfl,SqL.of e2',a2,_,rfl,_,_,rfl,rfl,(by show (0:Int) < most; lia),_,_,rfl,rfl,small (by show 3<=1000; decide),fun p7 h7=>?_⟩
       obtain⟨i,hi⟩:=Wy u1
       rw[hi] at u2
       refine q (.ref p7) (.gives i (1+d2 % most)) _ (s56.trans (az h7 _)) (.gives (aj.trans (by show some (HO.tup [V.str "gives",V.int (d1 % (n:Int)),V.int (1+d2 % most)])=some (HO.tup [V.str "gives",V.int (i:Int),V.int (1+d2 % most)]); rw[hi])) (by lia) (by lia) (by lia)) ?_
       exact de1
    ·refine tZ (inV (.int d0) [.int 3,.int 4]) (decide (1 < (cs.length:Int))) (fun H6=>bc H5 H6) (fun Q' hQ=>?_) (fun H6 s6 Q' hQ=>?_) (fun H6 s6 _ hl2=>?_) (fun H6 s6 _=>R _ _ ⟨rfl,s6⟩)
     ·refine⟨_,rfl,p2,_,_,_,rfl,rfl,SqL.of e2',a0,small (by show 2<=1000; decide),fun p6 h6=>⟨p6,_,rfl,.inr (SqT.of aj),rfl,rfl,_,rfl,hQ _ (az h6 _)⟩⟩
     ·refine⟨_,rfl,rc,_,rfl,.inr (SqT.of (s6 _ _ e5)),_,_,rfl,rfl,_,rfl,?_⟩
      rw[lenr]
      exact hQ
     ·have e2':=s6 _ _ e2'
      have e5:=s6 _ _ e5
      have s56:bc H H6:=gH.trans (s5.trans s6)
      have hl3:(1:Int) < (cs.length:Int):=of_decide_eq_true hl2
      refine⟨_,rfl,_,rfl,p2,_,_,_,rfl,rfl,SqL.of e2',a1,_,_,rfl,rfl,.inl ⟨by decide,by decide⟩,_,rfl,p2,_,_,_,rfl,rfl,SqL.of e2',a2,_,_,rfl,rfl,?_⟩
      refine⟨_,rfl,_,rfl,rc,_,rfl,.inr (SqT.of e5),_,_,rfl,rfl,.inl ⟨by lia,by lia⟩,_,_,rfl,?_⟩
      have pz:0 < most * ((cs.map vN).length:Int):=by
       rw[lenr]
       exact Int.mul_pos (by lia) (by lia)
      generalize hz:(if most * ((cs.map vN).length:Int) < 99 then most * ((cs.map vN).length:Int) else 99)=z
      have z1:0 < z:=by
       rw[← hz]
       split <;> lia
      have z2:z<=99:=by
       rw[← hz]
       split <;> lia
      have u3:0<=(9 * d1+d2) % z:=Sy _ (by lia)
      have u4:(9 * d1+d2) % z < z:=Sg _ z1
      refine⟨_,_,rfl,rfl,z1,_,_,rfl,rfl,small (by show 3<=1000; decide),fun p7 h7=>?_⟩
      refine q (.ref p7) (.sum cs (1+(9 * d1+d2) % z)) _ (s56.trans (az h7 _)) (.sum aj (az h7 _ _ _ e5) hc hp (by lia) (by lia) (by lia) (by lia)) ?_
      exact de1
   ·refine⟨_,rfl,small (by show 0<=1000; decide),fun p4 h4=>?_⟩
    have e3':SqT K H3 r3 ((cs.map fun i:Nat=>(i:Int)).map V.int):=by rw[← mY]; exact SqT.of e3
    have g4:bc H3 (upd H3 p4 (.tup [])):=az h4 _
    refine⟨r3,p4,cs.map (fun i:Nat=>(i:Int)),[],rfl,rfl,Bl g4 e3',SqT.of aj,_,rfl,?_⟩
    refine jG (fun ce=>?_) (fun ce=>?_)
    ·have u1:0<=d4 % (n:Int):=Sy _ (by lia)
     have u2:d4 % (n:Int) < (n:Int):=Sg _ (by lia)
     refine⟨_,rfl,p2,_,_,_,rfl,rfl,SqL.of (g4 _ _ (s3 _ _ e2)),a4,_,rfl,_,_,rfl,rfl,(by show (0:Int) < (n:Int); lia),small (by show 1<=1000; decide),fun p5 h5=>?_⟩
     obtain⟨i,hi⟩:=Wy u1
     rw[hi] at u2
     refine R _ _ ⟨p5,[i],rfl,s3.trans (g4.trans (az h5 _)),aj.trans (by show some (HO.tup [V.int (d4 % (n:Int))])=some (HO.tup [V.int (i:Int)]); rw[hi]),?_,by simp,n1,Rh _⟩
     intro j hj
     rw[Wu] at hj
     lia
    ·refine R _ _ ⟨r3,cs,rfl,s3.trans g4,g4 _ _ e3,hc,hp,hl,?_⟩
     cases cs with
     | nil=>exact absurd (decide_eq_true rfl) ce
     | cons x xs=>rw[Rg]; lia
  ·refine tZ (decide (d0 < 2)) (decide (1 < deep)) (fun H3=>H2=H3) (fun Q' hQ=>?_) (fun H3 e Q' hQ=>?_) (fun H3 e c1 c2=>?_) (fun H3 e _=>R _ _ ⟨rfl,e⟩)
   ·exact⟨_,rfl,p2,_,_,_,rfl,rfl,SqL.of e2,a0,_,_,rfl,rfl,_,rfl,hQ _ rfl⟩
   ·exact⟨_,rfl,_,_,rfl,rfl,_,rfl,hQ⟩
   ·subst e
    have c1:d0 < 2:=of_decide_eq_true c1
    have c2:1 < deep:=of_decide_eq_true c2
    have u1:0<=d4 % 5:=Sy _ (by lia)
    have u2:d4 % 5 < 5:=Sg _ (by lia)
    refine⟨_,rfl,p2,_,_,_,rfl,rfl,SqL.of e2,a4,_,_,rfl,rfl,(by show (0:Int) < 5; decide),_,_,rfl,rfl,_,rfl,by lia,by lia,fun D hD=>ig (lo:=0) (n:=(2+d4 % 5).toNat)
     (fun i zs σ' H5=>(∃ u,σ'=[u,some (.int (n:Int)),some (.int most),some (.int c),some (.int deep)])/\bc H2 H5/\H5 D=some (.lst zs)/\zs.length=i/\∃ ts,cM n H5 zs ts/\(tdL ts:Int)<=deep - 1)
     ⟨⟨_,rfl⟩,az hD _,aj,rfl,[],.nil,by rw[tdL]; lia⟩ (fun i zs σ' H5 _ h=>h.2.2.1) ?_ ?_⟩
    ·rintro i zs σ' H5 hi ⟨⟨u,rfl⟩,s5,eD,lz,ts,rt,td⟩
     refine gT ?_
     refine⟨_,rfl,_,rfl,c,i,by rw[Xk]; rfl,by lia,_,rfl,_,rfl,_,_,rfl,rfl,_,rfl,Jr c i,n,deep - 1,most,rfl,n1,n12,by lia,by lia,m1,m9,fun v t H6 s6 r6 d6=>?_⟩
     refine⟨s6 _ _ eD,?_,⟨_,rfl⟩,aY (s5.trans s6) hD _,aj,?_,ts++[t],?_,?_⟩
     ·exact bj (by lia)
     ·rw[Rf,lz]
      rfl
     ·have s7:=eO (zs':=zs++[v]) (s6 _ _ eD)
      exact ((rt.mono s6).eY s7).snoc (r6.eY s7)
     ·have:=yt (m:=(deep - 1).toNat) (t:=t) (by lia) (ts:=ts) (by lia)
      lia
    ·rintro zs σ' H5 ⟨⟨u,rfl⟩,s5,eD,lz,ts,rt,td⟩
     refine⟨small (by show 2<=1000; decide),fun p6 h6=>?_⟩
     generalize eH6:upd H5 p6 _=H6
     obtain⟨g6,e6⟩:=aH eH6 h6
     refine⟨_,rfl,p2,_,_,_,rfl,rfl,SqL.of (g6 _ _ (s5 _ _ e2)),a0,?_⟩
     rcases (show d0=0∨d0=1 by lia) with z | z
     ·subst z
      refine⟨p6,_,_,_,rfl,rfl,SqL.of e6,rfl,_,rfl,D,_,rfl,.inl ⟨SqL.of (g6 _ _ eD),fun p7 h7=>?_⟩⟩
      generalize eH7:upd H6 p7 _=H7
      obtain⟨g7,e7⟩:=aH eH7 h7
      refine⟨small (by show 2<=1000; decide),fun p8 h8=>?_⟩
      refine q (.ref p8) (.all ts) _ (gH.trans (s5.trans (g6.trans (g7.trans (az h8 _))))) (.all aj (az h8 _ _ _ e7) (by lia) (by lia) (rt.mono (g6.trans (g7.trans (az h8 _))))) ?_
      rw[Tm.dep]
      lia
     ·subst z
      refine⟨p6,_,_,_,rfl,rfl,SqL.of e6,rfl,_,rfl,D,_,rfl,.inl ⟨SqL.of (g6 _ _ eD),fun p7 h7=>?_⟩⟩
      generalize eH7:upd H6 p7 _=H7
      obtain⟨g7,e7⟩:=aH eH7 h7
      refine⟨small (by show 2<=1000; decide),fun p8 h8=>?_⟩
      refine q (.ref p8) (.any ts) _ (gH.trans (s5.trans (g6.trans (g7.trans (az h8 _))))) (.any aj (az h8 _ _ _ e7) (by lia) (by lia) (rt.mono (g6.trans (g7.trans (az h8 _))))) ?_
      rw[Tm.dep]
      lia
theorem Je {e:Expr} {es:List Expr} {env:WQ} (h:∀ x p,e≠.Starred x p):R9 (e::es) env=(false,UG e env)::R9 es env:=by
 rw[R9]
 intro x p z
 exact h x p z
theorem dC {X:Cx} {e:Expr} {es:List Expr} {te:TE} {t:TA} (ha:PE X e te) (hr:PA X es t) (h:∀ x p,e≠.Starred x p:=by intro x p z; cases z):PA X (e::es) (oO te t):=aa ha hr (Je h)
theorem Aa {es:List Expr} {p:Wi} {tg:Option Expr} {n:Nat} {env:WQ}:ZD (.List es p) tg n env=pure false:=rfl
theorem Gq (ns:List Int) (lo hi:Option Int):∃ ks:List Int,Fj (ns.map V.int) lo hi=ks.map V.int/\ks.length<=ns.length:=by
 unfold Fj
 generalize HT.sIx _ _ lo=x
 generalize HT.sIx _ _ hi=y
 refine⟨(ns.drop x).take (y - x),by rw[List.map_take,List.map_drop],?_⟩
 rw[RN,T8]
 lia
theorem Fb:∀ (ns acc:List Int),(acc++ns).Nodup->ns.foldl SM acc=acc++ns
 | [],acc,_=>by rw[Ss]; rfl
 | n::r,acc,h=>by
  rw[VD]
  have hn:n ∉ acc:=fun z=>by
   have:=List.nodup_append.mp h
   exact this.2.2 n z n Rc rfl
  have e:SM acc n=acc++[n]:=by
   unfold SM
   rw[if_neg]
   intro z
   obtain⟨x,hx,ex⟩:=List.any_eq_true.mp z
   exact hn (by rw[← eq_of_beq ex]; exact hx)
  rw[e,Fb r (acc++[n]) (by rw[RG]; exact h),RG]
  rfl
theorem oZ:∀ (ns acc:List Int),acc.Nodup->(ns.foldl SM acc).Nodup
 | [],acc,h=>h
 | n::r,acc,h=>by
  rw[VD]
  refine oZ r _ ?_
  unfold SM
  split
  ·exact h
  ·rename_i z
   rw[List.nodup_append]
   refine⟨h,by simp,fun a ha b hb e=>?_⟩
   rw[Wu] at hb
   subst hb
   subst e
   exact z (List.any_eq_true.mpr ⟨a,ha,beq_self_eq_true a⟩)
theorem yS:∀ (ns acc:List Int),(ns.foldl SM acc).length<=acc.length+ns.length
 | [],acc=>by simp
 | n::r,acc=>by
  rw[VD]
  refine RP (yS r _) ?_
  unfold SM
  split
  ·rw[Rg]; lia
  ·simp only[Rf,Rg,Yp]; lia
theorem rR (ns:List Int):ddI ns=ns.foldl SM []:=by
 unfold ddI PyProof.Rows.firstMet
 congr 1
 apply List.ext_getElem?
 intro i
 rw[Rz]
 by_cases h:i < ns.length
 ·rw[List.getElem?_range h,Rn h]
  simp [RZ,Rn h]
 ·have e1:(Uc ns.length)[i]? = none:=VH (by rw[U6]; lia)
  rw[e1,VH (by lia)]
  rfl
theorem nA:∀ {a b:List Int},a.Perm b->a.Pairwise (·<=·)->b.Pairwise (·<=·)->a=b
 | [],b,p,_,_=>(List.Perm.nil_eq p)
 | x::a,[],p,_,_=>absurd p.length_eq (by simp)
 | x::a,y::b,p,ha,hb=>by
  rw[Ul] at ha hb
  have h1:x<=y:=by
   rcases List.mem_cons.mp (p.mem_iff.mpr Rc) with h | h
   ·lia
   ·exact ha.1 y h
  have h2:y<=x:=by
   rcases List.mem_cons.mp (p.mem_iff.mp Rc) with h | h
   ·lia
   ·exact hb.1 x h
  have e:x=y:=by lia
  subst e
  rw[nA (List.Perm.cons_inv p) ha.2 hb.2]
abbrev Pl:=List (Int × Tm)
inductive dN (n:Nat) (H:Hp):List V->Pl->Prop where
 | nil:dN n H [] []
 | cons {r:Addr} {k:Int} {v:V} {t:Tm} {vs:List V} {ps:Pl}:H r=some (.tup [.int k,v])->jg n H v t->dN n H vs ps->dN n H (.ref r::vs) ((k,t)::ps)
theorem dN.eY {n:Nat} {H H':Hp} (e:∀ a xs,H a=some (HO.tup xs)->H' a=some (HO.tup xs)):∀ {vs:List V} {ps:Pl},dN n H vs ps->dN n H' vs ps
 | _,_,.nil=>.nil
 | _,_,.cons h t r=>.cons (e _ _ h) (t.eY e) (dN.eY e r)
theorem dN.length {n:Nat} {H:Hp}:∀ {vs:List V} {ps:Pl},dN n H vs ps->vs.length=ps.length
 | _,_,.nil=>rfl
 | _,_,.cons _ _ r=>by rw[Rg,Rg,dN.length r]
theorem dN.get {n:Nat} {H:Hp}:∀ {vs:List V} {ps:Pl} {i:Nat} {v:V},dN n H vs ps->vs[i]? = some v->∃ r k u t,v = .ref r/\H r=some (.tup [.int k,u])/\jg n H u t/\ps[i]? = some (k,t)
 | _,_,_,_,.nil,h=>by simp at h
 | _,_,0,_,.cons h t _,e=>by
  cases (show some _=some _ from e)
  exact⟨_,_,_,_,rfl,h,t,rfl⟩
 | _,_,i+1,_,.cons _ _ r,e=>by
  obtain⟨a,k,u,t,h1,h2,h3,h4⟩:=dN.get (i:=i) r (by simpa using e)
  exact⟨a,k,u,t,h1,h2,h3,by simpa using h4⟩
theorem dN.snoc {n:Nat} {H:Hp} {r:Addr} {k:Int} {v:V} {t:Tm} (h:H r=some (.tup [.int k,v])) (ht:jg n H v t):∀ {vs:List V} {ps:Pl},dN n H vs ps->dN n H (vs++[.ref r]) (ps++[(k,t)])
 | _,_,.nil=>.cons h ht .nil
 | _,_,.cons a b c=>.cons a b (dN.snoc h ht c)
def okP (p:Pl):Prop:=p≠[]/\p.length<=9/\(p.map (·.1)).Pairwise (· < ·)/\∀ x∈p,1<=x.1/\x.1<=9/\x.2.dep<=4
def Qf (n:Nat) (H:Hp) (a:Addr) (p:Pl):Prop:=okP p/\∃ vs,H a=some (.tup vs)/\dN n H vs p
theorem take_snoc {α β:Type} (f:α->β) {xs:List α} {i:Nat} {x:α} (h:xs[i]? = some x):(xs.take (i+1)).map f=(xs.take i).map f++[f x]:=(tX f h).symm
def Jz (x:Nat):List Nat->List Nat
 | []=>[x]
 | y::r=>if x<=y then x::y::r else y::Jz x r
def BJ:List Nat->List Nat
 | []=>[]
 | x::r=>Jz x (BJ r)
theorem qb (x:Nat):∀ l:List Nat,(Jz x l).Perm (x::l)
 | []=>.refl _
 | y::r=>by
  rw[Jz]
  split
  ·exact .refl _
  ·exact ((qb x r).cons y).trans (.swap x y r)
theorem qM:∀ l:List Nat,(BJ l).Perm l
 | []=>.refl _
 | x::r=>(qb x _).trans ((qM r).cons x)
theorem qd (x:Nat):∀ {l:List Nat},l.Pairwise (·<=·)->(Jz x l).Pairwise (·<=·)
 | [],_=>by rw[Jz]; simp
 | y::r,h=>by
  rw[Jz]
  rw[Ul] at h
  split
  ·rw[Ul,Ul]
   refine⟨fun z hz=>?_,h⟩
   rcases List.mem_cons.mp hz with rfl | hz
   ·assumption
   ·have:=h.1 z hz
    lia
  ·rw[Ul]
   refine⟨fun z hz=>?_,qd x h.2⟩
   rcases List.mem_cons.mp ((qb x r).mem_iff.mp hz) with rfl | hz
   ·lia
   ·exact h.1 z hz
theorem kO:∀ l:List Nat,(BJ l).Pairwise (·<=·)
 | []=>by rw[BJ]; simp
 | x::r=>qd x (kO r)
theorem Bk {l:List Nat} {ms:List Int} (p:ms.Perm (l.map fun i:Nat=>(i:Int))) (h:ms.Pairwise (·<=·)):ms=(BJ l).map fun i:Nat=>(i:Int):=by
 refine nA (p.trans ((qM l).map _).symm) h ?_
 rw[VL]
 exact (kO l).imp fun h=>by lia
mutual
def ren (f:Nat->Nat):Tm->Tm
 | .free=>.free
 | .never=>.never
 | .gives i k=>.gives (f i) k
 | .sum c k=>.sum (BJ (c.map f)) k
 | .crowd c k m=>.crowd (BJ (c.map f)) k m
 | .all ts=>.all (Ar f ts)
 | .any ts=>.any (Ar f ts)
def Ar (f:Nat->Nat):List Tm->List Tm
 | []=>[]
 | t::r=>ren f t::Ar f r
end
theorem lF (f:Nat->Nat):∀ ts:List Tm,Ar f ts=ts.map (ren f)
 | []=>by rw[Ar]; rfl
 | t::r=>by rw[Ar,lF f r]; rfl
mutual
theorem Ew (f:Nat->Nat):∀ t:Tm,(ren f t).dep=t.dep
 | .free=>by rw[ren]
 | .never=>by rw[ren]
 | .gives i k=>by rw[ren,Tm.dep,Tm.dep] <;> simp
 | .sum c k=>by rw[ren,Tm.dep,Tm.dep] <;> simp
 | .crowd c k m=>by rw[ren,Tm.dep,Tm.dep] <;> simp
 | .all ts=>by rw[ren,Tm.dep,Tm.dep,tM f ts]
 | .any ts=>by rw[ren,Tm.dep,Tm.dep,tM f ts]
theorem tM (f:Nat->Nat):∀ ts:List Tm,tdL (Ar f ts)=tdL ts
 | []=>by rw[Ar]
 | t::r=>by rw[Ar,tdL,tdL,Ew f t,tM f r]
end
def oE (rs:List Nat) (i:Nat):Nat:=rs.getD i 0
theorem yQ {rs:List Nat} {i:Nat} (h:i < rs.length):oE rs i∈rs:=by
 unfold oE
 rw[RZ,Rn h]
 exact Wb h
theorem Gb {rs:List Nat} (nd:rs.Nodup) {i j:Nat} (hi:i < rs.length) (hj:j < rs.length) (hij:i < j):oE rs i≠oE rs j:=by
 unfold oE
 rw[RZ,Rn hi,RZ,Rn hj]
 exact List.pairwise_iff_getElem.mp nd i j hi hj hij
theorem uV {rs c:List Nat} {m n:Nat} (nd:rs.Nodup) (hm:m<=rs.length) (hv:∀ x∈rs,x < n) (hc:∀ i∈c,i < m) (hp:c.Pairwise (· < ·)) :
  (∀ i∈BJ (c.map (oE rs)),i < n)/\(BJ (c.map (oE rs))).Pairwise (· < ·)/\(BJ (c.map (oE rs))).length=c.length:=by
 have pm:=qM (c.map (oE rs))
 refine⟨fun i hi=>?_,?_,by rw[pm.length_eq,Q8]⟩
 ·obtain⟨j,hj,rfl⟩:=List.mem_map.mp (pm.mem_iff.mp hi)
  exact hv _ (yQ (Rm (hc j hj) hm))
 ·have nd2:(c.map (oE rs)).Nodup:=by
   show (c.map (oE rs)).Pairwise (·≠·)
   rw[VL]
   exact List.Pairwise.imp_of_mem (fun {a b} ha hb h=>Gb nd (Rm (hc a ha) hm) (Rm (hc b hb) hm) h) hp
  have nd3:(BJ (c.map (oE rs))).Nodup:=pm.nodup_iff.mpr nd2
  exact ((kO _).and nd3).imp fun h=>by lia
theorem Ep {rs:List Nat} {i:Nat} (h:i < rs.length):atI (rs.map vN) (i:Int)=some (vN (oE rs i)):=by
 refine iI ?_
 unfold oE
 rw[Rz,RZ,Rn h]
 rfl
theorem Ba {b:Bool} {A B:Prop} (h:b=true) (a:A):if b=true then A else B:=by rw[if_pos h]; exact a
theorem jf {b:Bool} {A B:Prop} (h:b=false) (a:B):if b=true then A else B:=by rw[if_neg (by rw[h]; exact Rv)]; exact a
abbrev iY:Stmt:=top 40
theorem rB:aV ["_law_term_here","_law_row"] ["_law_term_here","_law_row"] (aB iY):=⟨rfl,rfl,rfl,by decide+kernel,rfl,by decide+kernel,by decide+kernel⟩
def Ak (K:R7) (d:Nat):Sp:=fun vs H Q _=>∃ (v:V) (row:Addr) (m n:Nat) (t:Tm) (rs:List Nat),vs=[v,.ref row]/\jg m H v t/\t.dep<=d/\SqL K H row (rs.map vN)/\m<=rs.length/\rs.Nodup/\(∀ x∈rs,x < n) ∧
 ∀ (v':V) (H':Hp),bc H H'->jg n H' v' (ren (oE rs) t)->Q v' H'
theorem G7:dB P w K mg base CX0 0 f fd ["_law_term_here","_law_row"] (Ak K 0):=by
 have no:∀ vs H Q E,¬ Ak K 0 vs H Q E:=fun vs H Q E h=>by
  obtain⟨v,row,m,n,t,rs,_,_,h1,_⟩:=h
  have:=t.m8
  lia
 exact⟨fun vs H Q E h=>absurd h (no vs H Q E),fun A outer s H args us vs Q E _ _ _ _ h=>absurd h (no vs H Q E)⟩
theorem Gp {K:R7} {H H':Hp} {a:Addr} {xs:List V} (e:bc H H') (h:SqL K H a xs):SqL K H' a xs:=e.seq h
theorem gY {d:Nat} (F:Fun K "_law_renamed" "_law_renamed" iY f fd) (B:Bt mg)
  (D_law_renamed:Df P w K mg base "_law_renamed" d ["_law_term_here","_law_row"] (Ak K d)):dB P w K mg base CX0 (d+1) f fd ["_law_term_here","_law_row"] (Ak K (d+1)):=by
 refine F.ok rB (fun vs H Q E h=>?_) (fun cdv A outer s H vs Q E hr h=>?_)
 ·obtain⟨v,row,m,n,t,rs,rfl,_⟩:=h
  rfl
 ·obtain⟨v,row,m,n,t,rs,rfl,rt,hd,hR,hm,nd,hv,q⟩:=h
  refine⟨_,(au (bu (aD cD (aQ (r:=jd K) bH (pv 0) aq (fun _ _=>rfl)) aC (aK _)) (aA (aJ (bh (aa aC (aa (aQ (r:=d8 K) aO (pv 1) (aQ (r:=jd K) bH (pv 0) aq (fun _ _=>rfl)) (fun _ _=>rfl)) (aa (aQ (r:=jd K) bH (pv 0) aq (fun _ _=>rfl)) ao)))))) aM)
 (au (bu (aD (r:=rIn K false) fQ (aQ (r:=jd K) bH (pv 0) aq (fun _ _=>rfl)) (bh (aa aC (aa aC ao))) rfl) (aA (aJ (aL (r:=HX K) GD (bh (aa (aQ (r:=jd K) bH (pv 0) aq (fun _ _=>rfl)) (aa (aX (r:=gq K) bD rfl B.tuple_ bJ (aa (aG (r:=HF K) Ay rfl B.sorted_ (by decide+kernel) (aa (eG (L:=["_law_one"]) (F:=["_law_row"]) (cap:=[1]) rfl (bU rfl rfl (by kernel_rfl)) (iZ (aQ (r:=jd K) bH (pv 0) aq (fun _ _=>rfl))) (fun _ _ _ _ _=>(aN (i:=0) (bM (by decide+kernel)) rfl (RJ rfl))) (fun _ _ _ _ _=>cF) (fun _ _ _ _ _=>(aQ (r:=d8 K) aO (pv 1) (pv 0) (fun _ _=>rfl)))) ao)) ao)) ao))) (bI (r:=Ql K) Ly (pv 0) (bQ aq) cQ)))) aM)
 (au (bu (aD (r:=rIn K false) fQ (aQ (r:=jd K) bH (pv 0) aq (fun _ _=>rfl)) (bh (aa aC (aa aC ao))) rfl) (aA (aJ (bh (aa (aQ (r:=jd K) bH (pv 0) aq (fun _ _=>rfl)) (aa (aX (r:=gq K) bD rfl B.tuple_ bJ (aa (eG (L:=["_law_part"]) (F:=["_law_row"]) (cap:=[1]) rfl (bU rfl rfl (by kernel_rfl)) (iZ (aQ (r:=jd K) bH (pv 0) aq (fun _ _=>rfl))) (fun _ _ _ _ _=>(aN (i:=0) (bM (by decide+kernel)) rfl (RJ rfl))) (fun _ _ _ _ _=>cF) (fun _ _ _ _ _=>(bF D_law_renamed hr (aa (pv 0) (aa (pv 1) ao))))) ao)) ao))))) aM)
 (aA (aJ (pv 0)))))),?_⟩
  cases rt with
  | @free a ha =>
   refine⟨_,rfl,a,_,_,_,rfl,rfl,SqT.of ha,aF (k:=0) rfl,rfl,_,rfl,dU (bZ (by decide)) ?_⟩
   refine⟨_,rfl,a,_,_,_,rfl,rfl,SqT.of ha,aF (k:=0) rfl,small (by show 2<=1000; decide),fun p1 h1=>⟨p1,_,rfl,.inr (SqT.of aj),rfl,rfl,_,rfl,jf (by decide+kernel) ?_⟩⟩
   generalize eH1:upd H p1 _=H1
   obtain⟨g1,_⟩:=aH eH1 h1
   refine⟨_,rfl,a,_,_,_,rfl,rfl,SqT.of (g1 _ _ ha),aF (k:=0) rfl,small (by show 2<=1000; decide),fun p2 h2=>⟨p2,_,rfl,.inr (SqT.of aj),rfl,rfl,_,rfl,jf (by decide+kernel) ?_⟩⟩
   generalize eH2:upd H1 p2 _=H2
   obtain⟨g2,_⟩:=aH eH2 h2
   refine⟨_,rfl,?_⟩
   have q':=q (.ref a) H2 (g1.trans g2) (by rw[ren]; exact .free (g2 _ _ (g1 _ _ ha)))
   exact q'
  | @never a ha =>
   refine⟨_,rfl,a,_,_,_,rfl,rfl,SqT.of ha,aF (k:=0) rfl,rfl,_,rfl,dU (bZ (by decide)) ?_⟩
   refine⟨_,rfl,a,_,_,_,rfl,rfl,SqT.of ha,aF (k:=0) rfl,small (by show 2<=1000; decide),fun p1 h1=>⟨p1,_,rfl,.inr (SqT.of aj),rfl,rfl,_,rfl,jf (by decide+kernel) ?_⟩⟩
   generalize eH1:upd H p1 _=H1
   obtain⟨g1,_⟩:=aH eH1 h1
   refine⟨_,rfl,a,_,_,_,rfl,rfl,SqT.of (g1 _ _ ha),aF (k:=0) rfl,small (by show 2<=1000; decide),fun p2 h2=>⟨p2,_,rfl,.inr (SqT.of aj),rfl,rfl,_,rfl,jf (by decide+kernel) ?_⟩⟩
   generalize eH2:upd H1 p2 _=H2
   obtain⟨g2,_⟩:=aH eH2 h2
   refine⟨_,rfl,?_⟩
   have q':=q (.ref a) H2 (g1.trans g2) (by rw[ren]; exact .never (g2 _ _ (g1 _ _ ha)))
   exact q'
  | @gives a i k ha hi k1 k9 =>
   refine⟨_,rfl,a,_,_,_,rfl,rfl,SqT.of ha,aF (k:=0) rfl,rfl,_,rfl,lY rfl ?_⟩
   refine⟨_,rfl,_,rfl,a,_,_,_,rfl,rfl,SqT.of ha,aF (k:=1) rfl,row,_,_,_,rfl,rfl,hR,Ep (by lia),_,rfl,a,_,_,_,rfl,rfl,SqT.of ha,aF (k:=2) rfl,small (by show 3<=1000; decide),fun p1 h1=>?_⟩
   refine q (.ref p1) _ (az h1 _) ?_
   rw[ren]
   exact .gives aj (hv _ (yQ (by lia))) k1 k9
  | @sum a b c k ha hb hc hp l20 l2 k1 k99 =>
   obtain⟨x1,x2,x3⟩:=uV nd hm hv hc hp
   refine⟨_,rfl,a,_,_,_,rfl,rfl,SqT.of ha,aF (k:=0) rfl,rfl,_,rfl,dU (bZ (by decide)) ?_⟩
   refine⟨_,rfl,a,_,_,_,rfl,rfl,SqT.of ha,aF (k:=0) rfl,small (by show 2<=1000; decide),fun p1 h1=>⟨p1,_,rfl,.inr (SqT.of aj),rfl,rfl,_,rfl,Ba (by decide+kernel) ?_⟩⟩
   generalize eH1:upd H p1 _=H1
   obtain⟨g1,_⟩:=aH eH1 h1
   refine⟨_,rfl,a,_,_,_,rfl,rfl,SqT.of (g1 _ _ ha),aF (k:=0) rfl,?_⟩
   refine⟨_,rfl,a,_,_,_,rfl,rfl,SqT.of (g1 _ _ ha),aF (k:=1) rfl,b,rfl,⟨_,SqT.of (g1 _ _ hb)⟩,fun D hD=>fJ (K:=K) (a:=b) (xs:=c.map vN) (fun i zs σ' H2=>(∃ u,σ'=[u,some (.ref row)])/\zs=((c.take i).map (oE rs)).map vN/\bc H1 H2/\H2 D=some (.lst zs))
    ⟨⟨_,rfl⟩,rfl,az hD _,aj⟩ (fun i zs σ' H2 _ h=>⟨SqT.of (h.2.2.1 _ _ (g1 _ _ hb)),h.2.2.2⟩) ?_ ?_⟩
   ·rintro j zs x σ' H2 hx ⟨⟨u,rfl⟩,e1,sm,hDl⟩
    obtain⟨i,hi,rfl⟩:=Bg hx
    have him:=hc i (RL hi)
    refine gT ?_
    refine⟨_,rfl,_,rfl,row,_,_,_,rfl,rfl,Gp (g1.trans sm) hR,Ep (by lia),hDl,?_,⟨_,rfl⟩,?_,aY sm hD _,aj⟩
    ·rw[e1,Q8,Q8,RN]
     exact bj (by lia)
    ·rw[e1,take_snoc (oE rs) hi,Rx]
     rfl
   ·rintro zs σ' H2 ⟨_,e1,sm,hDl⟩
    rw[Q8,R6] at e1
    refine⟨D,(c.map (oE rs)).map fun i:Nat=>(i:Int),rfl,SqL.of (by rw[hDl,e1,mY]),by rw[Q8,Q8]; lia,fun ms pm so l hl=>?_⟩
    rw[Bk pm so,← mY]
    generalize eH3:upd H2 l _=H3
    obtain⟨g3,e3⟩:=aH eH3 hl
    refine⟨l,_,rfl,.inl ⟨SqL.of e3,fun p4 h4=>?_⟩⟩
    generalize eH4:upd H3 p4 _=H4
    obtain⟨g4,e4⟩:=aH eH4 h4
    refine⟨small (by show 2<=1000; decide),fun p5 h5=>?_⟩
    generalize eH5:upd H4 p5 _=H5
    obtain⟨g5,e5⟩:=aH eH5 h5
    have s5:bc H H5:=g1.trans (sm.trans (g3.trans (g4.trans g5)))
    refine⟨_,rfl,_,rfl,a,_,rfl,SqT.of (s5 _ _ ha),(by show ¬ (HT.sIx 3 0 (some 2)=0/\HT.sIx 3 3 none=3); decide),fun p6 h6=>?_⟩
    have ec:Fj [V.str "sum",.ref b,.int k] (some 2) none=[.int k]:=rfl
    rw[ec]
    generalize eH6:upd H5 p6 _=H6
    obtain⟨g6,e6⟩:=aH eH6 h6
    refine⟨p5,p6,_,_,rfl,rfl,SqT.of (g6 _ _ e5),SqT.of e6,small (by show 3<=1000; decide),fun z=>(by cases z),fun _ z=>(by cases z),fun _ _ p7 h7=>?_⟩
    refine q (.ref p7) _ (s5.trans (g6.trans (az h7 _))) ?_
    rw[ren]
    exact .sum aj (az h7 _ _ _ (g6 _ _ (g5 _ _ e4))) x1 x2 (by lia) (by lia) k1 k99
  | @crowd a b c k mm ha hb hc hp l20 l1 k1 k9 m1 m12 =>
   obtain⟨x1,x2,x3⟩:=uV nd hm hv hc hp
   refine⟨_,rfl,a,_,_,_,rfl,rfl,SqT.of ha,aF (k:=0) rfl,rfl,_,rfl,dU (bZ (by decide)) ?_⟩
   refine⟨_,rfl,a,_,_,_,rfl,rfl,SqT.of ha,aF (k:=0) rfl,small (by show 2<=1000; decide),fun p1 h1=>⟨p1,_,rfl,.inr (SqT.of aj),rfl,rfl,_,rfl,Ba (by decide+kernel) ?_⟩⟩
   generalize eH1:upd H p1 _=H1
   obtain⟨g1,_⟩:=aH eH1 h1
   refine⟨_,rfl,a,_,_,_,rfl,rfl,SqT.of (g1 _ _ ha),aF (k:=0) rfl,?_⟩
   refine⟨_,rfl,a,_,_,_,rfl,rfl,SqT.of (g1 _ _ ha),aF (k:=1) rfl,b,rfl,⟨_,SqT.of (g1 _ _ hb)⟩,fun D hD=>fJ (K:=K) (a:=b) (xs:=c.map vN) (fun i zs σ' H2=>(∃ u,σ'=[u,some (.ref row)])/\zs=((c.take i).map (oE rs)).map vN/\bc H1 H2/\H2 D=some (.lst zs))
    ⟨⟨_,rfl⟩,rfl,az hD _,aj⟩ (fun i zs σ' H2 _ h=>⟨SqT.of (h.2.2.1 _ _ (g1 _ _ hb)),h.2.2.2⟩) ?_ ?_⟩
   ·rintro j zs x σ' H2 hx ⟨⟨u,rfl⟩,e1,sm,hDl⟩
    obtain⟨i,hi,rfl⟩:=Bg hx
    have him:=hc i (RL hi)
    refine gT ?_
    refine⟨_,rfl,_,rfl,row,_,_,_,rfl,rfl,Gp (g1.trans sm) hR,Ep (by lia),hDl,?_,⟨_,rfl⟩,?_,aY sm hD _,aj⟩
    ·rw[e1,Q8,Q8,RN]
     exact bj (by lia)
    ·rw[e1,take_snoc (oE rs) hi,Rx]
     rfl
   ·rintro zs σ' H2 ⟨_,e1,sm,hDl⟩
    rw[Q8,R6] at e1
    refine⟨D,(c.map (oE rs)).map fun i:Nat=>(i:Int),rfl,SqL.of (by rw[hDl,e1,mY]),by rw[Q8,Q8]; lia,fun ms pm so l hl=>?_⟩
    rw[Bk pm so,← mY]
    generalize eH3:upd H2 l _=H3
    obtain⟨g3,e3⟩:=aH eH3 hl
    refine⟨l,_,rfl,.inl ⟨SqL.of e3,fun p4 h4=>?_⟩⟩
    generalize eH4:upd H3 p4 _=H4
    obtain⟨g4,e4⟩:=aH eH4 h4
    refine⟨small (by show 2<=1000; decide),fun p5 h5=>?_⟩
    generalize eH5:upd H4 p5 _=H5
    obtain⟨g5,e5⟩:=aH eH5 h5
    have s5:bc H H5:=g1.trans (sm.trans (g3.trans (g4.trans g5)))
    refine⟨_,rfl,_,rfl,a,_,rfl,SqT.of (s5 _ _ ha),(by show ¬ (HT.sIx 4 0 (some 2)=0/\HT.sIx 4 4 none=4); decide),fun p6 h6=>?_⟩
    have ec:Fj [V.str "crowd",.ref b,.int k,.int mm] (some 2) none=[.int k,.int mm]:=rfl
    rw[ec]
    generalize eH6:upd H5 p6 _=H6
    obtain⟨g6,e6⟩:=aH eH6 h6
    refine⟨p5,p6,_,_,rfl,rfl,SqT.of (g6 _ _ e5),SqT.of e6,small (by show 4<=1000; decide),fun z=>(by cases z),fun _ z=>(by cases z),fun _ _ p7 h7=>?_⟩
    refine q (.ref p7) _ (s5.trans (g6.trans (az h7 _))) ?_
    rw[ren]
    exact .crowd aj (az h7 _ _ _ (g6 _ _ (g5 _ _ e4))) x1 x2 (by lia) (by lia) k1 k9 m1 m12
  | @all a b us ts ha hb l2 l6 rl =>
   have hdl:tdL ts<=d:=by rw[Tm.dep] at hd; lia
   have el:=rl.length
   refine⟨_,rfl,a,_,_,_,rfl,rfl,SqT.of ha,aF (k:=0) rfl,rfl,_,rfl,dU (bZ (by decide)) ?_⟩
   refine⟨_,rfl,a,_,_,_,rfl,rfl,SqT.of ha,aF (k:=0) rfl,small (by show 2<=1000; decide),fun p1 h1=>⟨p1,_,rfl,.inr (SqT.of aj),rfl,rfl,_,rfl,jf (by decide+kernel) ?_⟩⟩
   generalize eH1:upd H p1 _=H1
   obtain⟨g1,_⟩:=aH eH1 h1
   refine⟨_,rfl,a,_,_,_,rfl,rfl,SqT.of (g1 _ _ ha),aF (k:=0) rfl,small (by show 2<=1000; decide),fun p2 h2=>⟨p2,_,rfl,.inr (SqT.of aj),rfl,rfl,_,rfl,Ba (by decide+kernel) ?_⟩⟩
   generalize eH2:upd H1 p2 _=H2
   obtain⟨g2,_⟩:=aH eH2 h2
   have s2:bc H H2:=g1.trans g2
   refine⟨_,rfl,a,_,_,_,rfl,rfl,SqT.of (s2 _ _ ha),aF (k:=0) rfl,?_⟩
   refine⟨_,rfl,a,_,_,_,rfl,rfl,SqT.of (s2 _ _ ha),aF (k:=1) rfl,b,rfl,⟨_,SqT.of (s2 _ _ hb)⟩,fun D hD=>fJ (K:=K) (a:=b) (xs:=us) (fun i zs σ' H3=>(∃ u,σ'=[u,some (.ref row)])/\zs.length=i/\bc H2 H3/\H3 D=some (.lst zs)/\cM n H3 zs (Ar (oE rs) (ts.take i)))
    ⟨⟨_,rfl⟩,rfl,az hD _,aj,by rw[WK,Ar]; exact .nil⟩ (fun i zs σ' H3 _ h=>⟨SqT.of (h.2.2.1 _ _ (s2 _ _ hb)),h.2.2.2.1⟩) ?_ ?_⟩
   ·rintro j zs x σ' H3 hx ⟨⟨u,rfl⟩,lz,sm,hDl,rz⟩
    obtain⟨t,ht,rt⟩:=rl.get hx
    have hj:=(List.getElem?_eq_some_iff.mp hx).1
    refine gT ?_
    refine⟨_,rfl,_,rfl,x,row,m,n,t,rs,rfl,rt.mono (s2.trans sm),RP (qI ht) hdl,Gp (s2.trans sm) hR,hm,nd,hv,fun v' H4 s4 r4=>?_⟩
    have s7:=eO (zs':=zs++[v']) (s4 _ _ hDl)
    refine⟨s4 _ _ hDl,bj (by lia),⟨_,rfl⟩,by rw[Rf,lz]; rfl,aY (sm.trans s4) hD _,aj,?_⟩
    rw[lF,take_snoc (ren (oE rs)) ht,← lF]
    exact ((rz.mono s4).eY s7).snoc (r4.eY s7)
   ·rintro zs σ' H3 ⟨_,lz,sm,hDl,rz⟩
    rw[el,R6] at rz
    refine⟨D,_,rfl,.inl ⟨SqL.of hDl,fun p4 h4=>?_⟩⟩
    generalize eH4:upd H3 p4 _=H4
    obtain⟨g4,e4⟩:=aH eH4 h4
    refine⟨small (by show 2<=1000; decide),fun p5 h5=>?_⟩
    refine q (.ref p5) _ (s2.trans (sm.trans (g4.trans (az h5 _)))) ?_
    rw[ren]
    exact .all aj (az h5 _ _ _ e4) (by lia) (by lia) (rz.mono (g4.trans (az h5 _)))
  | @any a b us ts ha hb l2 l6 rl =>
   have hdl:tdL ts<=d:=by rw[Tm.dep] at hd; lia
   have el:=rl.length
   refine⟨_,rfl,a,_,_,_,rfl,rfl,SqT.of ha,aF (k:=0) rfl,rfl,_,rfl,dU (bZ (by decide)) ?_⟩
   refine⟨_,rfl,a,_,_,_,rfl,rfl,SqT.of ha,aF (k:=0) rfl,small (by show 2<=1000; decide),fun p1 h1=>⟨p1,_,rfl,.inr (SqT.of aj),rfl,rfl,_,rfl,jf (by decide+kernel) ?_⟩⟩
   generalize eH1:upd H p1 _=H1
   obtain⟨g1,_⟩:=aH eH1 h1
   refine⟨_,rfl,a,_,_,_,rfl,rfl,SqT.of (g1 _ _ ha),aF (k:=0) rfl,small (by show 2<=1000; decide),fun p2 h2=>⟨p2,_,rfl,.inr (SqT.of aj),rfl,rfl,_,rfl,Ba (by decide+kernel) ?_⟩⟩
   generalize eH2:upd H1 p2 _=H2
   obtain⟨g2,_⟩:=aH eH2 h2
   have s2:bc H H2:=g1.trans g2
   refine⟨_,rfl,a,_,_,_,rfl,rfl,SqT.of (s2 _ _ ha),aF (k:=0) rfl,?_⟩
   refine⟨_,rfl,a,_,_,_,rfl,rfl,SqT.of (s2 _ _ ha),aF (k:=1) rfl,b,rfl,⟨_,SqT.of (s2 _ _ hb)⟩,fun D hD=>fJ (K:=K) (a:=b) (xs:=us) (fun i zs σ' H3=>(∃ u,σ'=[u,some (.ref row)])/\zs.length=i/\bc H2 H3/\H3 D=some (.lst zs)/\cM n H3 zs (Ar (oE rs) (ts.take i)))
    ⟨⟨_,rfl⟩,rfl,az hD _,aj,by rw[WK,Ar]; exact .nil⟩ (fun i zs σ' H3 _ h=>⟨SqT.of (h.2.2.1 _ _ (s2 _ _ hb)),h.2.2.2.1⟩) ?_ ?_⟩
   ·rintro j zs x σ' H3 hx ⟨⟨u,rfl⟩,lz,sm,hDl,rz⟩
    obtain⟨t,ht,rt⟩:=rl.get hx
    have hj:=(List.getElem?_eq_some_iff.mp hx).1
    refine gT ?_
    refine⟨_,rfl,_,rfl,x,row,m,n,t,rs,rfl,rt.mono (s2.trans sm),RP (qI ht) hdl,Gp (s2.trans sm) hR,hm,nd,hv,fun v' H4 s4 r4=>?_⟩
    have s7:=eO (zs':=zs++[v']) (s4 _ _ hDl)
    refine⟨s4 _ _ hDl,bj (by lia),⟨_,rfl⟩,by rw[Rf,lz]; rfl,aY (sm.trans s4) hD _,aj,?_⟩
    rw[lF,take_snoc (ren (oE rs)) ht,← lF]
    exact ((rz.mono s4).eY s7).snoc (r4.eY s7)
   ·rintro zs σ' H3 ⟨_,lz,sm,hDl,rz⟩
    rw[el,R6] at rz
    refine⟨D,_,rfl,.inl ⟨SqL.of hDl,fun p4 h4=>?_⟩⟩
    generalize eH4:upd H3 p4 _=H4
    obtain⟨g4,e4⟩:=aH eH4 h4
    refine⟨small (by show 2<=1000; decide),fun p5 h5=>?_⟩
    refine q (.ref p5) _ (s2.trans (sm.trans (g4.trans (az h5 _)))) ?_
    rw[ren]
    exact .any aj (az h5 _ _ _ e4) (by lia) (by lia) (rz.mono (g4.trans (az h5 _)))
def shN (one k:Nat):Nat:=k+if one<=k then 1 else 0
def shR (one m:Nat):List Nat:=(Uc m).map (shN one)
theorem Bm (one m:Nat):(shR one m).Nodup:=by
 unfold shR
 show ((Uc m).map (shN one)).Pairwise (·≠·)
 rw[VL]
 refine List.pairwise_lt_range.imp fun {a b} h=>?_
 unfold shN
 split <;> split <;> lia
theorem N8 {one m:Nat}:∀ x∈shR one m,x < m+1:=fun x hx=>by
 unfold shR at hx
 obtain⟨k,hk,rfl⟩:=List.mem_map.mp hx
 have:=List.mem_range.mp hk
 unfold shN
 split <;> lia
abbrev mW:Stmt:=top 41
theorem xX:aV ["_law_cell","_law_n","_law_one","_law_deep","_law_most"] ["_law_cell","_law_n","_law_one","_law_deep","_law_most"] (aB mW):=⟨rfl,rfl,rfl,by decide+kernel,rfl,by decide+kernel,by decide+kernel⟩
def Io:Sp:=fun vs H Q _=>∃ (c:Int) (n one:Nat) (deep:Int) (mo:Nat),vs=[.int c,.int (n:Int),.int (one:Int),.int deep,.int (mo:Int)]/\1<=n/\n<=12/\one < n/\1<=deep/\deep<=3/\1<=mo/\mo<=9 ∧
 ∀ (v:V) (t:Tm) (H':Hp),bc H H'->jg n H' v t->t.dep<=3->Q v H'
theorem xM (F:Fun K "_law_mine" "_law_mine" mW f fd) (B:Bt mg)
  (D_law_term:Df P w K mg base "_law_term" 4 ["_law_cell","_law_n","_law_deep","_law_most"] (pH 3)) (D_law_renamed:Df P w K mg base "_law_renamed" 3 ["_law_term_here","_law_row"] (Ak K 3)):dB P w K mg base CX0 5 f fd ["_law_cell","_law_n","_law_one","_law_deep","_law_most"] Io:=by
 refine F.ok xX (fun vs H Q E h=>?_) (fun cdv A outer s H vs Q E hr h=>?_)
 ·obtain⟨c,n,one,deep,mo,rfl,_⟩:=h
  rfl
 ·obtain⟨c,n,one,deep,mo,rfl,n1,n12,hone,de1,de3,m1,m9,q⟩:=h
  refine⟨_,(au (bu (aD cD (pv 1) aq (aK _)) (aA (aJ (bh (aa (aQ (r:=d8 K) aO (cj (aa aC (aa aC (aa aC ao)))) (aL di (pv 0) aq) (fun _ _=>rfl)) ao)))) aM)
 (aA (aJ (bF D_law_renamed hr (aa (bF D_law_term hr (aa (pv 0) (aa (aL gQ (pv 1) aq) (aa (pv 3) (aa (pv 4) ao))))) (aa (eG (L:=["_law_k"]) (F:=["_law_one"]) (cap:=[2]) rfl (bU rfl rfl (by kernel_rfl)) (eU rfl B.range_ (aa (aL gQ (pv 1) aq) ao)) (fun _ _ _ _ _=>(aN (i:=0) (bM (by decide+kernel)) rfl (RJ rfl))) (fun _ _ _ _ _=>cF) (fun _ _ _ _ _=>(aL bK (pv 0) (aX (r:=Cp) jC rfl B.int_ jR (aa (cR PB (pv 0) (pv 1) (aK _)) ao))))) ao)))))),?_⟩
  refine⟨_,rfl,rfl,_,rfl,?_⟩
  refine jG (fun c1=>?_) (fun c1=>?_)
  ·have en:n=1:=by
    have:=of_decide_eq_true c1
    cases n with
    | zero=>lia
    | succ n=>injection this with z; lia
   subst en
   refine⟨small (by show 3<=1000; decide),fun p7 h7=>?_⟩
   generalize eH7:upd H p7 _=H7
   obtain⟨g7,e7⟩:=aH eH7 h7
   have fin:∀ p8 (x:Str),H7 p8=none->(x = "free"∨x = "never")->Q (.ref p8) (upd H7 p8 (.tup [.str x])):=fun p8 x h8 hx=>by
    rcases hx with rfl | rfl
    ·exact q (.ref p8) .free _ (g7.trans (az h8 _)) (.free aj) (by decide)
    ·exact q (.ref p8) .never _ (g7.trans (az h8 _)) (.never aj) (by decide)
   refine⟨_,rfl,_,_,rfl,rfl,(by show (0:Int) < 3; decide),?_⟩
   have u1:0<=c % 3:=Sy _ (by lia)
   have u2:c % 3 < 3:=Sg _ (by lia)
   rcases (show c % 3=0∨c % 3=1∨c % 3=2 by lia) with z | z | z
   ·exact⟨p7,_,_,_,rfl,rfl,SqL.of e7,by rw[z]; rfl,small (by show 1<=1000; decide),fun p8 h8=>fin p8 _ h8 (.inl rfl)⟩
   ·exact⟨p7,_,_,_,rfl,rfl,SqL.of e7,by rw[z]; rfl,small (by show 1<=1000; decide),fun p8 h8=>fin p8 _ h8 (.inr rfl)⟩
   ·exact⟨p7,_,_,_,rfl,rfl,SqL.of e7,by rw[z]; rfl,small (by show 1<=1000; decide),fun p8 h8=>fin p8 _ h8 (.inl rfl)⟩
  ·have en:n≠1:=fun z=>c1 (decide_eq_true (by rw[z]; rfl))
   obtain⟨m,rfl⟩:∃ m,n=m+1:=⟨n - 1,by lia⟩
   have em:((m+1:Nat):Int) - 1=(m:Int):=by lia
   have et:(((m+1:Nat):Int) - 1).toNat=m:=by lia
   refine⟨_,rfl,_,rfl,_,_,rfl,rfl,_,rfl,_,rfl,c,m,deep,(mo:Int),(by show[V.int c,V.int (((m+1:Nat):Int) - 1),V.int deep,V.int (mo:Int)]=_; rw[em]),by lia,by lia,de1,by lia,by lia,by lia,fun v t H1 s1 rt td=>?_⟩
   refine⟨_,rfl,_,_,rfl,rfl,_,rfl,by lia,by lia,fun D hD=>ig (lo:=0) (n:=(((m+1:Nat):Int) - 1).toNat) (fun i zs σ' H2=>(∃ u,σ'=[u,some (.int (one:Int))])/\zs=((Uc i).map (shN one)).map vN/\bc H1 H2/\H2 D=some (.lst zs))
    ⟨⟨_,rfl⟩,rfl,az hD _,aj⟩ (fun i zs σ' H2 _ h=>h.2.2.2) ?_ ?_⟩
   ·rintro i zs σ' H2 hi ⟨⟨u,rfl⟩,e1,sm,hDl⟩
    refine gT ?_
    refine⟨_,rfl,_,rfl,_,rfl,_,_,rfl,rfl,.inr ⟨_,rfl,_,_,rfl,rfl,hDl,?_,⟨_,rfl⟩,?_,aY sm hD _,aj⟩⟩
    ·rw[e1,Q8,Q8,U6]
     exact bj (by lia)
    ·rw[e1,List.range_succ,Rx,Rx]
     congr 1
     show[V.int (0+(i:Int)+_)]=[V.int ((shN one i:Nat):Int)]
     congr 2
     unfold shN
     by_cases hc:one<=i
     ·rw[decide_eq_true (by lia),if_pos hc]
      simp
     ·rw[decide_eq_false (by lia),if_neg hc]
      simp
   ·rintro zs σ' H2 ⟨_,e1,sm,hDl⟩
    rw[et] at e1
    refine⟨v,D,m,m+1,t,shR one m,rfl,rt.mono sm,by lia,SqL.of (by rw[hDl,e1]; rfl),by unfold shR; rw[Q8,U6]; lia,Bm one m,N8,fun v' H3 s3 r3=>?_⟩
    exact q v' _ H3 (s1.trans (sm.trans s3)) r3 (by rw[Ew]; lia)
theorem DR {x:Int}:∀ (ns acc:List Int),x∈ns.foldl SM acc ↔ x∈acc∨x∈ns
 | [],acc=>by simp
 | n::r,acc=>by
  rw[VD,DR r _]
  unfold SM
  split
  ·rename_i h
   obtain⟨y,hy,ey⟩:=List.any_eq_true.mp h
   have e:=eq_of_beq ey
   constructor
   ·rintro (h | h)
    ·exact .inl h
    ·exact .inr (Ri _ h)
   ·rintro (h | h)
    ·exact .inl h
    ·rcases List.mem_cons.mp h with rfl | h
     ·exact .inl (by rw[← e]; exact hy)
     ·exact .inr h
  ·constructor
   ·rintro (h | h)
    ·rcases List.mem_append.mp h with h | h
     ·exact .inl h
     ·exact .inr (by rw[List.mem_singleton.mp h]; exact Rc)
    ·exact .inr (Ri _ h)
   ·rintro (h | h)
    ·exact .inl (Vp _ h)
    ·rcases List.mem_cons.mp h with rfl | h
     ·exact .inl (RC _ Rc)
     ·exact .inr h
def okS (ms:List Int):Prop:=ms≠[]/\ms.length<=9/\ms.Pairwise (· < ·)/\∀ x∈ms,1<=x/\x<=9
theorem Oc {ns ms:List Int} (p:ms.Perm (ddI ns)) (so:ms.Pairwise (·<=·)) (h0:ns≠[]) (h9:ns.length<=9) (hb:∀ x∈ns,1<=x/\x<=9):okS ms:=by
 rw[rR] at p
 have mem:∀ x,x∈ms ↔ x∈ns:=fun x=>by rw[p.mem_iff,DR]; simp
 refine⟨fun z=>?_,?_,?_,fun x hx=>hb x ((mem x).mp hx)⟩
 ·cases ns with
  | nil=>exact h0 rfl
  | cons a r =>
   have:=(mem a).mpr Rc
   rw[z] at this
   cases this
 ·have:=yS ns []
  rw[p.length_eq]
  simp at this
  lia
 ·have nd:ms.Nodup:=p.nodup_iff.mpr (oZ ns [] (by simp))
  exact (so.and nd).imp fun h=>by lia
theorem Bs {ms:List Int} (h:okS ms) {p:Pl} (e:p.map (·.1)=ms) (hd:∀ x∈p,x.2.dep<=4):okP p:=by
 refine⟨fun z=>?_,?_,by rw[e]; exact h.2.2.1,fun x hx=>?_⟩
 ·subst z
  exact h.1 e.symm
 ·have:=congrArg ZX e
  rw[Q8] at this
  have:=h.2.1
  lia
 ·have hm:x.1∈ms:=by rw[← e]; exact List.mem_map.mpr ⟨x,hx,rfl⟩
  exact⟨(h.2.2.2 _ hm).1,(h.2.2.2 _ hm).2,hd x hx⟩
abbrev jq:Stmt:=top 42
theorem bN:aV ["_law_cell","_law_n","_law_one","_law_deep","_law_most","_law_drawn","_law_steps","_law_other_one","_law_found","_law_k","_law_step"] ["_law_cell","_law_n","_law_one","_law_deep","_law_most"] (aB jq):=⟨rfl,rfl,rfl,by decide+kernel,rfl,by decide+kernel,by decide+kernel⟩
def yG:Sp:=fun vs H Q _=>∃ (c:Int) (n one:Nat) (deep:Int) (mo:Nat),vs=[.int c,.int (n:Int),.int (one:Int),.int deep,.int (mo:Int)]/\1<=n/\n<=12/\one < n/\1<=deep/\deep<=3/\1<=mo/\mo<=9 ∧
 ∀ (a:Addr) (p:Pl) (H':Hp),bc H H'->Qf n H' a p->(∀ x∈p,x.2.dep<=3)->Q (.ref a) H'
theorem tU (F:Fun K "_law_pledge" "_law_pledge" jq f fd) (B:Bt mg)
  (D_law_draws:Df P w K mg base "_law_draws" 1 ["_law_cell","_law_parts"] (qe K)) (D_law_under:Df P w K mg base "_law_under" 1 ["_law_cell","_law_k"] uK) (D_law_crowd:Df P w K mg base "_law_crowd" 1 ["_law_number_here","_law_n"] xP)
  (D_law_mine:Df P w K mg base "_law_mine" 5 ["_law_cell","_law_n","_law_one","_law_deep","_law_most"] Io):dB P w K mg base CX0 6 f fd ["_law_cell","_law_n","_law_one","_law_deep","_law_most"] yG:=by
 refine F.ok bN (fun vs H Q E h=>?_) (fun cdv A outer s H vs Q E hr h=>?_)
 ·obtain⟨c,n,one,deep,mo,rfl,_⟩:=h
  rfl
 ·obtain⟨c,n,one,deep,mo,rfl,n1,n12,hone,de1,de3,m1,m9,q⟩:=h
  refine⟨_,(au (aU (i:=5) bN.nd rfl (Zc rfl) (bF D_law_draws hr (aa (pv 0) (aa (cj (aa aq (aa aq (aa aq (aa aq (aa aq (aa aq ao))))))) ao))))
 (au (aU (i:=6) bN.nd rfl (RJ rfl) (gF rfl rfl B.sorted_ rfl B.set_ (aa (eG (L:=["_law_k"]) (F:=["_law_most","_law_drawn"]) (cap:=[4,5]) rfl (bU rfl rfl (by kernel_rfl)) (eU rfl B.range_ (aa (aL bK aq (aL di (aQ (r:=d8 K) aO (pv 5) aq (fun _ _=>rfl)) aq)) ao)) (fun _ _ _ _ _=>(aN (i:=0) (bM (by decide+kernel)) rfl (RJ rfl))) (fun _ _ _ _ _=>cF) (fun _ _ _ _ _=>(aL bK aq (aL di (aQ (r:=d8 K) aO (pv 2) (aL bK aq (pv 0)) (fun _ _=>rfl)) (pv 1))))) ao)))
 (au (bu (aD cD (aQ (r:=d8 K) aO (pv 5) aq (fun _ _=>rfl)) aq (aK _)) (au (qW (L:=["_law_step"]) (F:=[]) (cap:=[]) (j:=6) bN.nd rfl (RJ rfl) rfl (bU rfl rfl (by kernel_rfl)) (iZ (bF D_law_crowd hr (aa (aQ (r:=d8 K) aO (pv 5) aq (fun _ _=>rfl)) (aa (pv 4) ao)))) (fun _ _ _ _ _=>(aN (i:=0) (bM (by decide+kernel)) rfl (RJ rfl))) (fun _ _ _ _ _=>cF) (fun _ _ _ _ _=>(aL bK aq (pv 0))))
 (aA (bu (aD (r:=Qn K) (Oe hr.pQ) (pv 6) (cj ao) (aK _)) (aA (aU (i:=6) bN.nd rfl (RJ rfl) (cj (aa (pv 4) ao)))) aM))) aM)
 (au (bu (PW.pt (nU (aD cD (aQ (r:=d8 K) aO (pv 5) aq (fun _ _=>rfl)) aq (aK _)) (ji (aD uG (pv 1) aq (aK _))))) (aA (aJ (aX (r:=gq K) bD rfl B.tuple_ bJ (aa (eG (L:=["_law_step"]) (F:=["_law_n","_law_one"]) (cap:=[1,2]) rfl (bU rfl rfl (by kernel_rfl)) (fD (pv 6)) (fun _ _ _ _ _=>(aN (i:=0) (bM (by decide+kernel)) rfl (RJ rfl))) (fun _ _ _ _ _=>cF) (fun _ _ _ _ _=>(bh (aa (pv 0) (aa (bh (aa aC (aa (aL di (aL bK (pv 2) aq) (pv 1)) (aa (pv 0) ao)))) ao))))) ao)))) aM)
 (au (bu (PW.pt (nU (aD cD (aQ (r:=d8 K) aO (pv 5) aq (fun _ _=>rfl)) aq (aK _)) (ji (aD uG (pv 1) aq (aK _))))) (au (aU (i:=7) bN.nd rfl (Zc rfl) (aL di (aL bK (aL bK (pv 2) aq) (aL di (aQ (r:=d8 K) aO (pv 5) aq (fun _ _=>rfl)) (aL gQ (pv 1) aq))) (pv 1)))
 (aA (aJ (aX (r:=gq K) bD rfl B.tuple_ bJ (aa (eG (L:=["_law_step"]) (F:=["_law_other_one"]) (cap:=[7]) rfl (bU rfl rfl (by kernel_rfl)) (fD (pv 6)) (fun _ _ _ _ _=>(aN (i:=0) (bM (by decide+kernel)) rfl (RJ rfl))) (fun _ _ _ _ _=>cF) (fun _ _ _ _ _=>(bh (aa (pv 0) (aa (bh (aa aC (aa (pv 1) (aa (aG (DG rfl) rfl B.max_ N6 (aa aq (aa (aL gQ (pv 0) aq) ao))) ao)))) ao))))) ao))))) aM)
 (au (aU (i:=8) bN.nd rfl (RJ rfl) (cj ao))
 (au (gC TX rfl (KD rfl B.enumerate_ (aa (pv 6) ao)) (f9 (K:=K) 2 rfl rfl (bz (aN (i:=9) bN.nd rfl (RJ rfl)) (bz (aN (i:=10) bN.nd rfl (RJ rfl)) fY))) (aA (iG (gA Uo Ui Uh dw (pv 8) (aa (bh (aa (pv 10) (aa (bF D_law_mine hr (aa (bF D_law_under hr (aa (pv 0) (aa (pv 9) ao))) (aa (pv 1) (aa (pv 2) (aa (pv 3) (aa (pv 4) ao)))))) ao))) ao)))))
 (aA (aJ (aX (r:=gq K) bD rfl B.tuple_ bJ (aa (pv 8) ao))))))))))),?_⟩
  refine⟨_,rfl,small (by show 6<=1000; decide),fun p1 h1=>?_⟩
  generalize eH1:upd H p1 _=H1
  obtain⟨g1,e1⟩:=aH eH1 h1
  refine⟨c,p1,[7,9,9,9,12,512],rfl,SqL.of e1,by decide,by decide,fun p2 h2=>?_⟩
  generalize eH2:upd H1 p2 _=H2
  obtain⟨g2,e2⟩:=aH eH2 h2
  have hps:∀ q∈([7,9,9,9,12,512]:List Int),0 < q:=by decide
  obtain⟨d0,k0,b0⟩:=cG (c:=nD c) (i:=0) hps rfl
  obtain⟨d1,k1,b1⟩:=cG (c:=nD c) (i:=1) hps rfl
  obtain⟨d2,k2,b2⟩:=cG (c:=nD c) (i:=2) hps rfl
  obtain⟨d3,k3,b3⟩:=cG (c:=nD c) (i:=3) hps rfl
  obtain⟨d4,k4,b4⟩:=cG (c:=nD c) (i:=4) hps rfl
  obtain⟨d5,k5,b5⟩:=cG (c:=nD c) (i:=5) hps rfl
  have a0:=aF (d9 k0)
  have a4:=aF (d9 k4)
  have a5:=aF (d9 k5)
  have kk:∀ k:Nat,k < 3->∃ d,(uO (nD c) [7,9,9,9,12,512])[1+k]? = some d:=fun k hk=>by
   match k,hk with
   | 0,_=>exact⟨_,k1⟩
   | 1,_=>exact⟨_,k2⟩
   | 2,_=>exact⟨_,k3⟩
  change _=some (HO.lst ((uO (nD c) [7,9,9,9,12,512]).map V.int)) at e2
  generalize uO (nD c) [7,9,9,9,12,512]=ds at *
  have gH:bc H H2:=g1.trans g2
  have u1:0<=d0 % 3:=Sy _ (by lia)
  have u2:d0 % 3 < 3:=Sg _ (by lia)
  refine⟨_,rfl,p2,_,_,_,rfl,rfl,SqL.of e2,a0,_,_,rfl,rfl,(by show (0:Int) < 3; decide),_,_,rfl,rfl,_,rfl,by lia,by lia,fun D hD=>ig (lo:=0) (n:=(1+d0 % 3).toNat)
   (fun i zs σ' H3=>(∃ u,σ'=[u,some (.int (mo:Int)),some (.ref p2)])/\bc H2 H3/\H3 D=some (.lst zs)/\∃ ns:List Int,zs=ns.map V.int/\ns.length=i/\∀ x∈ns,1<=x/\x<=9)
   ⟨⟨_,rfl⟩,az hD _,aj,[],rfl,rfl,by simp⟩ (fun i zs σ' H3 _ h=>h.2.2.1) ?_ ?_⟩
  ·rintro i zs σ' H3 hi ⟨⟨u,rfl⟩,s3,eD,ns,e3,ln,hb⟩
   obtain⟨dk,hk⟩:=kk i (by lia)
   have ak:atI (ds.map V.int) (1+(0+(i:Int)))=some (.int dk):=by
    rw[show (1:Int)+(0+(i:Int))=((1+i:Nat):Int) by lia]
    exact aF (d9 hk)
   have v1:0<=dk % (mo:Int):=Sy _ (by lia)
   have v2:dk % (mo:Int) < (mo:Int):=Sg _ (by lia)
   refine gT ?_
   refine⟨_,rfl,_,rfl,_,_,rfl,rfl,p2,_,_,_,rfl,rfl,SqL.of (s3 _ _ e2),ak,_,rfl,_,_,rfl,rfl,(by show (0:Int) < (mo:Int); lia),_,_,rfl,rfl,eD,?_,⟨_,rfl⟩,aY s3 hD _,aj,ns++[1+dk % (mo:Int)],?_,?_,?_⟩
   ·rw[e3,Q8]
    exact bj (by lia)
   ·rw[e3,Rx]
    rfl
   ·rw[Rf,ln]
    rfl
   ·intro x hx
    rcases List.mem_append.mp hx with h | h
    ·exact hb x h
    ·rw[List.mem_singleton.mp h]
     lia
  ·rintro zs σ' H3 ⟨_,s3,eD,ns,e3,ln,hb⟩
   have ln3:1<=ns.length/\ns.length<=3:=by lia
   have dl:(ddI ns).length<=ns.length:=by
    have:=yS ns []
    rw[rR]
    simpa using this
   refine⟨D,ns,rfl,SqL.of (by rw[eD,e3]),by lia,by lia,fun ms pm so l hl=>?_⟩
   have okm:okS ms:=Oc pm so (fun z=>by rw[z] at ln3; simp at ln3) (by lia) hb
   generalize eH4:upd H3 l _=H4
   obtain⟨g4,e4⟩:=aH eH4 hl
   have s4:bc H2 H4:=s3.trans g4
   refine gN ?_
   dsimp only
   show xf (Bb _ _ _) _ _ _ _
   refine nF (fun σ H5=>∃ (l:Addr) (ms:List Int),σ=[some (.int c),some (.int (n:Int)),some (.int (one:Int)),some (.int deep),some (.int (mo:Int)),some (.ref p2),some (.ref l),none,none,none,none]/\bc H2 H5/\H5 l=some (.lst (ms.map V.int))/\okS ms) ?rest (fun R=>?_)
   case rest =>
    clear e4 hl so pm okm eH4 g4 s4 H4 l ms
    rintro σ H5 ⟨l,ms,rfl,s5,e5,okm⟩
    have l9:=okm.2.1
    have e2':=s5 _ _ e2
    have sH5:bc H H5:=gH.trans s5
    show xf (Bb _ _ _) _ _ _ _
    refine nF (fun σ H6=>σ=[some (.int c),some (.int (n:Int)),some (.int (one:Int)),some (.int deep),some (.int (mo:Int)),some (.ref p2),some (.ref l),none,none,none,none]/\H5=H6) ?rest2 (fun R=>?_)
    case rest2 =>
     rintro σ H6 ⟨rfl,rfl⟩
     show xf (Bb _ _ _) _ _ _ _
     refine nF (fun σ H6=>σ=[some (.int c),some (.int (n:Int)),some (.int (one:Int)),some (.int deep),some (.int (mo:Int)),some (.ref p2),some (.ref l),none,none,none,none]/\H5=H6) ?rest3 (fun R=>?_)
     case rest3 =>
      rintro σ H6 ⟨rfl,rfl⟩
      refine⟨small (Sd _),fun r hr0=>?_⟩
      generalize eH6:upd H5 r _=H6
      obtain⟨g6,e6⟩:=aH eH6 hr0
      refine⟨_,rfl,l,_,rfl,g6 _ _ e5,FN (K:=K) (a:=l) (xs:=ms.map V.int) (fun i σ H7=>(∃ u v,σ=[some (.int c),some (.int (n:Int)),some (.int (one:Int)),some (.int deep),some (.int (mo:Int)),some (.ref p2),some (.ref l),none,some (.ref r),u,v])/\bc H5 H7 ∧
       ∃ (vs:List V) (p:Pl),H7 r=some (.lst vs)/\dN n H7 vs p/\p.map (·.1)=ms.take i/\∀ x∈p,x.2.dep<=3) ⟨⟨_,_,rfl⟩,g6,[],[],e6,.nil,rfl,by simp⟩ (fun i σ H7 _ h=>SqL.of (h.2.1 _ _ e5)) ?_ ?_⟩
      ·rintro i x pp σ H7 hx hpp ⟨⟨u,v,rfl⟩,s7,vs,p,er,rp,ep,hd⟩
       obtain⟨st,hst,rfl⟩:=int_at hx
       have hi:i < ms.length:=(List.getElem?_eq_some_iff.mp hst).1
       generalize eH8:upd H7 pp _=H8
       obtain⟨g8,e8⟩:=aH eH8 hpp
       refine⟨pp,_,rfl,SqT.of e8,rfl,_,_,rfl,_,_,rfl,rfl,?_⟩
       refine⟨_,rfl,.inl ⟨rfl,_,SqL.of (g8 _ _ er)⟩,_,rfl,_,rfl,_,rfl,c,i,rfl,by lia,_,rfl,_,rfl,_,rfl,_,rfl,Jr c i,n,one,deep,mo,rfl,n1,n12,hone,de1,de3,m1,m9,fun v' t H9 s9 rt td=>?_⟩
       refine⟨small (by show 2<=1000; decide),fun pa ha=>?_⟩
       generalize eHa:upd H9 pa _=Ha
       obtain⟨ga,ea⟩:=aH eHa ha
       have s8a:bc H7 Ha:=g8.trans (s9.trans ga)
       have lv:=rp.length
       have lp:p.length<=ms.length:=by
        have:=congrArg ZX ep
        rw[Q8,RN] at this
        lia
       have tk:=eO (zs':=vs++[.ref pa]) (s8a _ _ er)
       refine⟨r,_,_,rfl,rfl,s8a _ _ er,bj (by lia),⟨_,_,rfl⟩,aY (s7.trans s8a) hr0 _,vs++[.ref pa],p++[(st,t)],aj,?_,?_,?_⟩
       ·exact dN.snoc (tk _ _ ea) ((rt.mono ga).eY tk) ((rp.eY fun a xs q=>s8a a _ q).eY tk)
       ·rw[Rx,ep,SJ,hst]
        rfl
       ·intro x hx
        rcases List.mem_append.mp hx with h | h
        ·exact hd x h
        ·rw[List.mem_singleton.mp h]
         show t.dep<=3
         lia
      ·rintro σ H7 ⟨⟨u,v,rfl⟩,s7,vs,p,er,rp,ep,hd⟩
       rw[Q8,R6] at ep
       refine⟨_,rfl,r,_,rfl,.inl ⟨SqL.of er,fun pa ha=>?_⟩⟩
       have sn:=az ha (.tup vs)
       exact q pa p _ (sH5.trans (s7.trans sn)) ⟨Bs okm ep (fun x hx=>RP (hd x hx) (by decide)),vs,aj,rp.eY fun a xs q=>sn a _ q⟩ hd
     ·refine tZ (decide (V.int d0=V.int 5)) (decide (1 < (n:Int))) (fun H6=>H5=H6) (fun Q' hQ=>?_) (fun H6 e Q' hQ=>?_) (fun H6 e c1 c2=>?_) (fun H6 e _=>R _ _ ⟨rfl,e⟩)
      ·exact⟨_,rfl,p2,_,_,_,rfl,rfl,SqL.of e2',a0,rfl,_,rfl,hQ _ rfl⟩
      ·subst e
       exact⟨_,rfl,_,_,rfl,rfl,_,rfl,hQ⟩
      ·subst e
       have c2:1 < (n:Int):=of_decide_eq_true c2
       have w1:0<=((one:Int)+1+d4 % ((n:Int) - 1)) % (n:Int):=Sy _ (by lia)
       have w2:((one:Int)+1+d4 % ((n:Int) - 1)) % (n:Int) < (n:Int):=Sg _ (by lia)
       obtain⟨j,hj⟩:=Wy w1
       refine⟨_,rfl,_,_,rfl,rfl,_,rfl,p2,_,_,_,rfl,rfl,SqL.of e2',a4,_,rfl,_,_,rfl,rfl,_,_,rfl,rfl,(by show (0:Int) < (n:Int) - 1; lia),_,_,rfl,rfl,_,rfl,_,_,rfl,rfl,(by show (0:Int) < (n:Int); lia),?_⟩
       refine gN ?_
       have es:(fun i j:Int=>V.int (i % j)) ((one:Int)+1+d4 % ((n:Int) - 1)) (n:Int)=V.int (j:Int):=by
        show V.int (((one:Int)+1+d4 % ((n:Int) - 1)) % (n:Int))=_
        rw[hj]
       refine⟨_,rfl,l,rfl,⟨_,SqL.of e5⟩,fun D hD=>eX (K:=K) (a:=l) (xs:=ms.map V.int) (fun i zs σ' H7=>(∃ u,σ'=[u,some (.int (j:Int))])/\bc H5 H7/\H7 D=some (.lst zs) ∧
        dN n H7 zs ((ms.take i).map fun st=>(st,Tm.gives j (if st - 1 > 1 then st - 1 else 1)))) ⟨⟨none,?_⟩,az hD _,aj,.nil⟩ (fun i zs σ' H7 _ h=>⟨SqL.of (h.2.1 _ _ e5),h.2.2.1⟩) ?_ ?_⟩
       ·rw[← es]
        rfl
       ·rintro i zs x σ' H7 hx ⟨⟨u,rfl⟩,s7,er,rp⟩
        obtain⟨st,hst,rfl⟩:=int_at hx
        have hb:=okm.2.2.2 st (RL hst)
        have lv:=rp.length
        rw[Q8,RN] at lv
        refine gT ?_
        refine⟨_,rfl,_,rfl,_,rfl,_,_,rfl,rfl,_,_,rfl,small (by show 3<=1000; decide),fun pa ha=>?_⟩
        generalize eHa:upd H7 pa _=Ha
        obtain⟨ga,ea⟩:=aH eHa ha
        refine⟨small (by show 2<=1000; decide),fun pb hb'=>?_⟩
        generalize eHb:upd Ha pb _=Hb
        obtain⟨gb,eb⟩:=aH eHb hb'
        have s7b:bc H7 Hb:=ga.trans gb
        have tk:=eO (zs':=zs++[.ref pb]) (s7b _ _ er)
        refine⟨s7b _ _ er,bj (by lia),⟨_,rfl⟩,aY (s7.trans s7b) hD _,aj,?_⟩
        rw[take_snoc (fun st=>(st,Tm.gives j (if st - 1 > 1 then st - 1 else 1))) hst]
        exact dN.snoc (tk _ _ eb) (.gives (tk _ _ (gb _ _ ea)) (by lia) (by split <;> lia) (by split <;> lia)) ((rp.eY fun a xs q=>s7b a _ q).eY tk)
       ·rintro zs σ' H7 ⟨_,s7,er,rp⟩
        rw[Q8,R6] at rp
        refine⟨D,_,rfl,.inl ⟨SqL.of er,fun pa ha=>?_⟩⟩
        have sn:=az ha (.tup zs)
        refine q pa _ _ (sH5.trans (s7.trans sn)) ⟨Bs okm ?_ ?_,zs,aj,rp.eY fun a xs q=>sn a _ q⟩ ?_
        ·rw[Vq]
         exact List.map_id' ms
        ·intro x hx
         obtain⟨st,_,rfl⟩:=List.mem_map.mp hx
         show (1:Nat)<=4
         decide
        ·intro x hx
         obtain⟨st,_,rfl⟩:=List.mem_map.mp hx
         show (1:Nat)<=3
         decide
    ·refine tZ (decide (V.int d0=V.int 6)) (decide (1 < (n:Int))) (fun H6=>H5=H6) (fun Q' hQ=>?_) (fun H6 e Q' hQ=>?_) (fun H6 e c1 c2=>?_) (fun H6 e _=>R _ _ ⟨rfl,e⟩)
     ·exact⟨_,rfl,p2,_,_,_,rfl,rfl,SqL.of e2',a0,rfl,_,rfl,hQ _ rfl⟩
     ·subst e
      exact⟨_,rfl,_,_,rfl,rfl,_,rfl,hQ⟩
     ·subst e
      have w1:0<=((one:Int)+1) % (n:Int):=Sy _ (by lia)
      have w2:((one:Int)+1) % (n:Int) < (n:Int):=Sg _ (by lia)
      obtain⟨j,hj⟩:=Wy w1
      refine⟨_,rfl,l,rfl,⟨_,SqL.of e5⟩,fun D hD=>eX (K:=K) (a:=l) (xs:=ms.map V.int) (fun i zs σ' H7=>(∃ u,σ'=[u,some (.int (n:Int)),some (.int (one:Int))])/\bc H5 H7/\H7 D=some (.lst zs) ∧
       dN n H7 zs ((ms.take i).map fun st=>(st,Tm.gives j st))) ⟨⟨_,rfl⟩,az hD _,aj,.nil⟩ (fun i zs σ' H7 _ h=>⟨SqL.of (h.2.1 _ _ e5),h.2.2.1⟩) ?_ ?_⟩
      ·rintro i zs x σ' H7 hx ⟨⟨u,rfl⟩,s7,er,rp⟩
       obtain⟨st,hst,rfl⟩:=int_at hx
       have hb:=okm.2.2.2 st (RL hst)
       have lv:=rp.length
       rw[Q8,RN] at lv
       refine gT ?_
       refine⟨_,rfl,_,rfl,_,_,rfl,rfl,_,rfl,_,_,rfl,rfl,(by show (0:Int) < (n:Int); lia),_,rfl,small (by show 3<=1000; decide),fun pa ha=>?_⟩
       generalize eHa:upd H7 pa _=Ha
       obtain⟨ga,ea⟩:=aH eHa ha
       have ea:Ha pa=some (.tup [.str "gives",vN j,.int st]):=by
        rw[ea]
        show some (HO.tup [V.str "gives",V.int (((one:Int)+1) % (n:Int)),V.int st])=some (HO.tup [V.str "gives",V.int (j:Int),V.int st])
        rw[hj]
       refine⟨small (by show 2<=1000; decide),fun pb hb'=>?_⟩
       generalize eHb:upd Ha pb _=Hb
       obtain⟨gb,eb⟩:=aH eHb hb'
       have s7b:bc H7 Hb:=ga.trans gb
       have tk:=eO (zs':=zs++[.ref pb]) (s7b _ _ er)
       refine⟨s7b _ _ er,bj (by lia),⟨_,rfl⟩,aY (s7.trans s7b) hD _,aj,?_⟩
       rw[take_snoc (fun st=>(st,Tm.gives j st)) hst]
       exact dN.snoc (tk _ _ eb) (.gives (tk _ _ (gb _ _ ea)) (by lia) (by lia) (by lia)) ((rp.eY fun a xs q=>s7b a _ q).eY tk)
      ·rintro zs σ' H7 ⟨_,s7,er,rp⟩
       rw[Q8,R6] at rp
       refine⟨D,_,rfl,.inl ⟨SqL.of er,fun pa ha=>?_⟩⟩
       have sn:=az ha (.tup zs)
       refine q pa _ _ (sH5.trans (s7.trans sn)) ⟨Bs okm ?_ ?_,zs,aj,rp.eY fun a xs q=>sn a _ q⟩ ?_
       ·rw[Vq]
        exact List.map_id' ms
       ·intro x hx
        obtain⟨st,_,rfl⟩:=List.mem_map.mp hx
        show (1:Nat)<=4
        decide
       ·intro x hx
        obtain⟨st,_,rfl⟩:=List.mem_map.mp hx
        show (1:Nat)<=3
        decide
   ·refine⟨_,rfl,p2,_,_,_,rfl,rfl,SqL.of (s4 _ _ e2),a0,rfl,_,rfl,?_⟩
    refine jG (fun _=>?_) (fun _=>R _ _ ⟨l,ms,rfl,s4,e4,okm⟩)
    refine⟨_,rfl,p2,_,_,_,rfl,rfl,SqL.of (s4 _ _ e2),a5,_,rfl,d5,mo,rfl,by lia,fun cs r3 H5 hc hp hl5 s5 f5 e5=>?_⟩
    refine⟨r3,rfl,⟨_,SqT.of e5⟩,fun D5 hD5=>fJ (K:=K) (a:=r3) (xs:=cs.map vN) (fun i zs σ' H6=>(∃ u,σ'=[u])/\zs=((cs.take i).map fun j:Nat=>(1:Int)+(j:Int)).map V.int/\bc H5 H6/\H6 D5=some (.lst zs))
     ⟨⟨_,rfl⟩,rfl,az hD5 _,aj⟩ (fun i zs σ' H6 _ h=>⟨SqT.of (h.2.2.1 _ _ e5),h.2.2.2⟩) ?_ ?_⟩
    ·rintro i zs x σ' H6 hx ⟨⟨u,rfl⟩,e6,s6,eD6⟩
     obtain⟨j,hj,rfl⟩:=Bg hx
     refine gT ?_
     refine⟨_,rfl,_,_,rfl,rfl,eD6,?_,⟨_,rfl⟩,?_,aY s6 hD5 _,aj⟩
     ·rw[e6,Q8,Q8,RN]
      exact bj (by lia)
     ·rw[e6,take_snoc (fun j:Nat=>(1:Int)+(j:Int)) hj,Rx]
      rfl
    ·rintro zs σ' H6 ⟨_,e6,s6,eD6⟩
     rw[Q8,R6] at e6
     rw[e6] at eD6
     have s46:bc H2 H6:=s4.trans (s5.trans s6)
     refine⟨_,rfl,small (by show 0<=1000; decide),fun p7 h7=>?_⟩
     have g7:bc H6 (upd H6 p7 (.lst [])):=az h7 _
     refine⟨D5,p7,_,rfl,rfl,SqL.of (g7 _ _ eD6),SqL.of aj,_,rfl,?_⟩
     refine jG (fun ce=>?_) (fun ce=>?_)
     ·refine⟨_,rfl,small (by show 1<=1000; decide),fun p8 h8=>?_⟩
      refine R _ _ ⟨p8,[(mo:Int)],rfl,s46.trans (g7.trans (az h8 _)),aj,by simp,by show 1<=9; decide,by simp,?_⟩
      intro x hx
      rw[List.mem_singleton.mp hx]
      lia
     ·refine R _ _ ⟨D5,cs.map fun j:Nat=>(1:Int)+(j:Int),rfl,s46.trans g7,g7 _ _ eD6,?_,?_,?_,?_⟩
      ·intro z
       apply ce
       rw[z]
       rfl
      ·rw[Q8]
       lia
      ·rw[VL]
       exact hp.imp fun h=>by lia
      ·intro x hx
       obtain⟨j,hj,rfl⟩:=List.mem_map.mp hx
       have:=hc j hj
       lia
theorem jM {t u:TS} {D:Ends} {σ:St} {H:Hp} (P:St->Hp->Prop) (h2:∀ σ H,P σ H->u D σ H) (h1:∀ N:St->Hp->Prop,(∀ σ H,P σ H->N σ H)->t { D with nx:=N } σ H):xf t u D σ H:=h1 (u D) h2
abbrev S (l:List Nat):Str:=⟨l.toArray⟩
theorem cA (l:List Nat):(S l).length=l.length:=by simp [Str.length]
theorem eE (a b:List Nat):S a++S b=S (a++b):=Str.ext' (by rw[Str.cps_append]; simp)
theorem Pn (x:Str):x=S x.cps.toList:=by cases x; simp
theorem oG {a b:List Nat} (h:S a=S b):a=b:=by
 have:=congrArg (fun x:Str=>x.cps.toList) h
 simpa using this
def jn (c:Nat):List (List Nat)->List Nat
 | []=>[]
 | [x]=>x
 | x::y::r=>x++c::jn c (y::r)
theorem Ey (c:Nat):∀ ps:List (List Nat),Str.join (S [c]) (ps.map S)=S (jn c ps)
 | []=>rfl
 | [x]=>rfl
 | x::y::r=>by
  have ih:=Ey c (y::r)
  rw[Tv] at ih
  show S x++S [c]++Str.join (S [c]) (S y::r.map S)=_
  rw[ih,eE,eE,jn,RG]
  rfl
theorem qO (c:Nat) (ps:List (List Nat)):PySem.Txt.join (S [c]) (ps.map S)=S (jn c ps):=by
 show Builtin.Str.glued _ _=_
 rw[StrLaws.glued_eq_join,Ey]
theorem yr {c:Nat}:∀ {a b x y:List Nat},c ∉ a->c ∉ b->a++c::x=b++c::y->a=b/\x=y
 | [],[],_,_,_,_,e=>⟨rfl,(TJ e).2⟩
 | [],b::_,_,_,_,hb,e=>absurd (List.mem_cons.mpr (.inl (TJ e).1)) hb
 | a::_,[],_,_,ha,_,e=>absurd (List.mem_cons.mpr (.inl (TJ e).1.symm)) ha
 | a::ra,b::rb,_,_,ha,hb,e=>by
  obtain⟨e1,e2⟩:=TJ e
  obtain⟨h1,h2⟩:=yr (fun z=>ha (Ri _ z)) (fun z=>hb (Ri _ z)) e2
  exact⟨by rw[e1,h1],h2⟩
theorem Dv {c:Nat}:∀ {ps qs:List (List Nat)},(∀ p∈ps,c ∉ p)->(∀ q∈qs,c ∉ q)->ps≠[]->qs≠[]->jn c ps=jn c qs->ps=qs
 | [],_,_,_,h,_,_=>absurd rfl h
 | _,[],_,_,_,h,_=>absurd rfl h
 | [x],[y],_,_,_,_,e=>by rw[show x=y from e]
 | [x],y::z::r,hp,_,_,_,e=>by
  refine absurd ?_ (hp x Rc)
  rw[show x=y++c::jn c (z::r) from e]
  exact RC _ Rc
 | x::z::r,[y],_,hq,_,_,e=>by
  refine absurd ?_ (hq y Rc)
  rw[← show x++c::jn c (z::r)=y from e]
  exact RC _ Rc
 | x::z::r,y::w::t,hp,hq,_,_,e=>by
  obtain⟨e1,e2⟩:=yr (hp x Rc) (hq y Rc) (show x++c::jn c (z::r)=y++c::jn c (w::t) from e)
  have:=Dv (fun p h=>hp p (Ri _ h)) (fun q h=>hq q (Ri _ h)) (by simp) (by simp) e2
  rw[e1,this]
theorem FJ {c:Nat} {ps:List (List Nat)} (h:∀ p∈ps,c ∉ p) (ne:ps≠[]):Yn (S (jn c ps)) (S [c])=ps.map S:=by
 generalize ez:Yn (S (jn c ps)) (S [c])=zs
 have h1:=StrLaws.join_split (S (jn c ps)) (S [c])
 have h2:=StrLaws.split_free (S (jn c ps)) c
 have h3:zs≠[]:=by
  rw[← ez]
  unfold Yn
  split
  ·simp
  ·split
   ·simp
   ·rw[StrLaws.partsBetween_eq]
    obtain⟨p,r,e⟩:=StrLaws.partsFrom_ne (S (jn c ps)) (S [c]).length 0 (U7 (S (jn c ps)) (S [c]) 0 (S (jn c ps)).length ((S (jn c ps)).length+1))
    rw[e]
    simp
 rw[ez] at h1
 have h2:∀ p∈zs,c ∉ p.cps.toList:=by rw[← ez]; exact h2
 have ec:zs=(zs.map fun z=>z.cps.toList).map S:=by
  rw[Vq]
  have:(S ∘ fun z:Str=>z.cps.toList)=id:=funext fun z=>(Pn z).symm
  rw[this,List.map_id]
 rw[ec,Ey] at h1
 have h1:=oG h1
 rw[ec]
 refine congrArg _ (Dv (fun p hp=>?_) h ?_ ne h1)
 ·obtain⟨z,hz,rfl⟩:=List.mem_map.mp hp
  exact h2 z hz
 ·exact fun z=>h3 (List.map_eq_nil_iff.mp z)
theorem oX (l:List Nat) (i j:Nat):Builtin.Str.strSub (S l) i j=S ((l.drop i).take (j - i)):=by
 rw[Pn (Builtin.Str.strSub (S l) i j),StrLaws.strSub_toList]
theorem ou (l:List Nat) (c i:Nat):StrLaws.At (S l) (S [c]) (S l).length i ↔ l[i]? = some c:=by
 have:=StrLaws.subAt_one (S l) c i
 simpa [StrLaws.At] using this
theorem Ip {c i:Nat}:∀ {a b:List Nat},c ∉ a->(a++c::b)[i]? = some c->a.length<=i
 | [],_,_,_=>Sd _
 | x::r,b,h,e=>by
  cases i with
  | zero =>
   refine absurd ?_ h
   rw[show x=c from by simpa using e]
   exact Rc
  | succ i =>
   have:=Ip (i:=i) (a:=r) (b:=b) (fun z=>h (Ri _ z)) (by simpa using e)
   rw[Rg]
   lia
theorem Kg {c:Nat} {a b:List Nat} (h:c ∉ a):Wf (S (a++c::b)) (S [c])=(S a,S [c],S b):=by
 have hm:(a++c::b)[a.length]? = some c:=by rw[Ua (Rh _),Zv]; rfl
 have key:(U7 (S (a++c::b)) (S [c]) 0 (S (a++c::b)).length 1).head? = some a.length:=by
  rcases StrLaws.occ_head (S (a++c::b)) (S [c]) 1 (Rh _) with⟨_,h2⟩ | ⟨i,r,h1,h2,h3⟩
  ·exact absurd ((ou _ _ _).mpr hm) (h2 _)
  ·have e1:=Ip h ((ou _ _ _).mp h2)
   have e2:¬ a.length < i:=fun z=>h3 _ z ((ou _ _ _).mpr hm)
   rw[h1,show i=a.length by lia]
   rfl
 unfold Wf
 cases e:U7 (S (a++c::b)) (S [c]) 0 (S (a++c::b)).length 1 with
 | nil=>rw[e] at key; cases key
 | cons i r =>
  rw[e] at key
  have ei:i=a.length:=RQ key
  subst ei
  dsimp only
  rw[oX,oX,cA,cA,V8,Nat.sub_zero,Z3]
  ·rw[show a.length+[c].length=a.length+1 from rfl,show (a++c::b).drop (a.length+1)=b by rw[List.drop_append,Ye (Ud _)]; simp,Vd]
   rw[Rf,Rg]
   lia
  ·rfl
theorem GQ {c:Nat} {a b:List Nat} (h:c ∉ b):V6 (S (a++c::b)) (S [c])=(S a,S [c],S b):=by
 have hm:(a++c::b)[a.length]? = some c:=by rw[Ua (Rh _),Zv]; rfl
 have key:Builtin.Str.lastOccurrence (S (a++c::b)) (S [c]) 0 (S (a++c::b)).length=some a.length:=by
  rcases StrLaws.last_spec (S (a++c::b)) (S [c]) with⟨_,h2⟩ | ⟨i,h1,h2,h3⟩
  ·exact absurd ((ou _ _ _).mpr hm) (h2 _)
  ·have e2:¬ i < a.length:=fun z=>h3 _ z ((ou _ _ _).mpr hm)
   have e1:¬ a.length < i:=fun z=>by
    have e:=(ou _ _ _).mp h2
    rw[Ua (by lia),show i - a.length=(i - a.length - 1)+1 by lia,List.getElem?_cons_succ] at e
    exact h (RL e)
   rw[h1,show i=a.length by lia]
 unfold V6
 rw[key]
 dsimp only
 rw[oX,oX,cA,cA,V8,Nat.sub_zero,Z3]
 ·rw[show a.length+[c].length=a.length+1 from rfl,show (a++c::b).drop (a.length+1)=b by rw[List.drop_append,Ye (Ud _)]; simp,Vd]
  rw[Rf,Rg]
  lia
 ·rfl
theorem Hn {c:Nat} {a:List Nat} (h:c ∉ a):V6 (S a) (S [c])=(S [],S [],S a):=by
 unfold V6
 rcases StrLaws.last_spec (S a) (S [c]) with⟨h1,_⟩ | ⟨i,_,h2,_⟩
 ·rw[h1]
  rfl
 ·exact absurd (RL ((ou _ _ _).mp h2)) h
theorem yF {c:Nat} {l:List Nat}:(!(U7 (S l) (S [c]) 0 (S l).length 1).isEmpty)=decide (c∈l):=by
 have:=StrLaws.found_one (S l) c
 simpa using this
theorem zT {c:Nat} {l:List Nat}:PySem.Txt.startswith (S l) (S [c])=decide (l.head? = some c):=by
 unfold PySem.Txt.startswith
 rw[cA,XM]
 cases l with
 | nil=>rfl
 | cons x r =>
  show (decide (0+1<=(x::r).length) && ((x::r).take 1 == [c]))=_
  rw[decide_eq_true (by rw[Rg]; lia),Tq]
  show ([x] == [c])=decide (some x=some c)
  by_cases e:x=c
  ·rw[e]; simp
  ·rw[decide_eq_false (fun z=>e (RQ z))]
   simp [e]
theorem GX {c:Nat} {l:List Nat}:Wr (S (l++[c])) (S [c])=true:=by
 unfold Wr
 rw[XM,cA,cA]
 have e:(l++[c]).length - [c].length=l.length:=by simp
 rw[e,decide_eq_true (by simp),Tq]
 show (((l++[c]).drop l.length).take 1 == [c])=true
 rw[List.drop_left]
 simp
def dg (n:Nat):List Nat:=if n < 10 then [48+n] else [48+n / 10 % 10,48+n % 10]
theorem vz (n:Nat):∀ x∈dg n,48<=x/\x<=57:=by
 intro x hx
 unfold dg at hx
 split at hx
 ·have:=List.mem_singleton.mp hx
  lia
 ·rcases List.mem_cons.mp hx with z | z
  ·lia
  ·have:=List.mem_singleton.mp z
   lia
theorem gD (n:Nat):1<=(dg n).length/\(dg n).length<=2:=by
 unfold dg
 split <;> simp
theorem Ej:∀ n:Nat,n < 100->((toString (n:Int):String):Str)=S (dg n):=by decide+kernel
theorem qU {i:Int} (h0:0<=i) (h:i<=99):((toString i:String):Str)=S (dg i.toNat):=by
 have:=Ej i.toNat (by lia)
 rwa [Int.toNat_of_nonneg h0] at this
def txC (c:List Nat):List Nat:=jn 43 (c.map dg)
mutual
def txT:Tm->List Nat
 | .free=>[102,114,101,101]
 | .never=>[110,101,118,101,114]
 | .gives i k=>dg i++58::dg k.toNat
 | .sum c k=>txC c++58::dg k.toNat
 | .crowd c k m=>dg m.toNat++42::(txC c++58::dg k.toNat)
 | .all ts=>40::(jn 38 (txL ts)++[41])
 | .any ts=>40::(jn 124 (txL ts)++[41])
def txL:List Tm->List (List Nat)
 | []=>[]
 | t::r=>txT t::txL r
end
theorem mR:∀ ts:List Tm,txL ts=ts.map txT
 | []=>by rw[txL]; rfl
 | t::r=>by rw[txL,mR r]; rfl
theorem wj {P:Nat->Prop} {e:Nat} (he:P e):∀ {ps:List (List Nat)},(∀ p∈ps,∀ x∈p,P x)->∀ x∈jn e ps,P x
 | [],_=>fun x hx=>by cases hx
 | [p],h=>h p Rc
 | p::q::r,h=>fun x hx=>by
  rw[jn] at hx
  rcases List.mem_append.mp hx with z | z
  ·exact h p Rc x z
  ·rcases List.mem_cons.mp z with z | z
   ·rw[z]; exact he
   ·exact wj he (fun p hp=>h p (Ri _ hp)) x z
theorem pP {P:Nat->Prop} {a b:List Nat} {e:Nat} (ha:∀ x∈a,P x) (he:P e) (hb:∀ x∈b,P x):∀ x∈a++e::b,P x:=fun x hx=>by
 rcases List.mem_append.mp hx with z | z
 ·exact ha x z
 ·rcases List.mem_cons.mp z with z | z
  ·rw[z]; exact he
  ·exact hb x z
theorem Cm {P:Nat->Prop} (h:∀ x,42<=x->x<=58->x≠44->P x) (c:List Nat):∀ x∈txC c,P x :=
 wj (h 43 (by decide) (by decide) (by decide)) fun p hp x hx=>by
  obtain⟨i,_,rfl⟩:=List.mem_map.mp hp
  have:=vz i x hx
  exact h x (by lia) (by lia) (by lia)
theorem u0 {P:Nat->Prop} (h:∀ x,42<=x->x<=58->x≠44->P x) (n:Nat):∀ x∈dg n,P x:=fun x hx=>by
 have:=vz n x hx
 exact h x (by lia) (by lia) (by lia)
def sg (x:Nat):Prop:=x < 128/\x≠44/\x≠63/\x≠32/\x≠10
theorem jz:∀ x,42<=x->x<=58->x≠44->sg x:=fun x _ _ _=>⟨by lia,by lia,by lia,by lia,by lia⟩
theorem HJ {l:List Nat} (h:l.all (fun x=>decide (x < 128/\x≠44/\x≠63/\x≠32/\x≠10))=true):∀ x∈l,sg x:=fun x hx=>of_decide_eq_true (p:=x < 128/\x≠44/\x≠63/\x≠32/\x≠10) (List.all_eq_true.mp h x hx)
theorem HB {P:Nat->Prop} {q:List Nat} (h1:P 40) (h2:P 41) (h:∀ x∈q,P x):∀ x∈40::(q++[41]),P x:=fun x hx=>by
 rcases List.mem_cons.mp hx with z | z
 ·rw[z]; exact h1
 ·rcases List.mem_append.mp z with z | z
  ·exact h x z
  ·rw[List.mem_singleton.mp z]; exact h2
mutual
theorem BV:∀ t:Tm,∀ x∈txT t,sg x
 | .free=>by rw[txT]; exact HJ (by decide)
 | .never=>by rw[txT]; exact HJ (by decide)
 | .gives i k=>by rw[txT]; exact pP (u0 jz _) (jz 58 (by decide) (by decide) (by decide)) (u0 jz _)
 | .sum c k=>by rw[txT]; exact pP (Cm jz _) (jz 58 (by decide) (by decide) (by decide)) (u0 jz _)
 | .crowd c k m=>by rw[txT]; exact pP (u0 jz _) (jz 42 (by decide) (by decide) (by decide)) (pP (Cm jz _) (jz 58 (by decide) (by decide) (by decide)) (u0 jz _))
 | .all ts=>by rw[txT]; exact HB ⟨by decide,by decide,by decide,by decide,by decide⟩ ⟨by decide,by decide,by decide,by decide,by decide⟩ (wj ⟨by decide,by decide,by decide,by decide,by decide⟩ (Bj ts))
 | .any ts=>by rw[txT]; exact HB ⟨by decide,by decide,by decide,by decide,by decide⟩ ⟨by decide,by decide,by decide,by decide,by decide⟩ (wj ⟨by decide,by decide,by decide,by decide,by decide⟩ (Bj ts))
theorem Bj:∀ ts:List Tm,∀ p∈txL ts,∀ x∈p,sg x
 | []=>fun p hp=>by rw[txL] at hp; cases hp
 | t::r=>fun p hp=>by
  rw[txL] at hp
  rcases List.mem_cons.mp hp with z | z
  ·rw[z]; exact BV t
  ·exact Bj r p z
end
def so (c:Nat):List Nat->Int->List Nat->List (List Nat)
 | [],_,cur=>[cur]
 | x::r,d,cur=>if x=40 then so c r (d+1) (cur++[x]) else if x=41 then so c r (d - 1) (cur++[x]) else if x=c/\d=0 then cur::so c r d [] else so c r d (cur++[x])
def QS (c:Nat) (d:Int) (p:List Nat):Prop:=∀ r cur,so c (p++r) d cur=so c r d (cur++p)
theorem MT {c:Nat} (h1:c≠40) (h2:c≠41):∀ {ps:List (List Nat)} {p cur:List Nat},(∀ q∈p::ps,QS c 0 q)->so c (jn c (p::ps)) 0 cur=(cur++p)::ps
 | [],p,cur,h=>by
  have:=h p Rc [] cur
  rw[Ss] at this
  rw[jn,this]
  rfl
 | q::r,p,cur,h=>by
  rw[jn,h p Rc,so,if_neg h1,if_neg h2,if_pos ⟨rfl,rfl⟩,MT h1 h2 fun x hx=>h x (Ri _ hx)]
  rfl
theorem vh {e B:Nat}:∀ {ps:List (List Nat)},(∀ p∈ps,p.length<=B)->(jn e ps).length<=ps.length * (B+1)
 | [],_=>Sd _
 | [p],h=>by
  have:=h p Rc
  show p.length<=1 * (B+1)
  lia
 | p::q::r,h=>by
  have h1:=h p Rc
  have h2:=vh (e:=e) (ps:=q::r) fun p hp=>h p (Ri _ hp)
  rw[jn,Rf,Rg,Rg (a:=p),Nat.add_mul,Yz]
  lia
theorem uL (c:List Nat):(txC c).length<=c.length * 3:=by
 have:=vh (e:=43) (B:=2) (ps:=c.map dg) fun p hp=>by
  obtain⟨i,_,rfl⟩:=List.mem_map.mp hp
  exact (gD i).2
 rwa [Q8] at this
theorem qx {l:List Nat} {a b:Nat} (h1:a<=b) (h2:b<=l.length):fK (S l) (some (a:Int)) (some (b:Int))=S ((l.drop a).take (b - a)):=by
 rw[Bd,StrLaws.sliceText_nat (S l) h1 (by rw[cA]; exact h2)]
theorem pB {l:List Nat} {a:Nat} (h:a<=l.length):fK (S l) (some (a:Int)) none=S (l.drop a):=by
 rw[Bd,StrLaws.sliceText_from (x:=S l) ⟨by lia,by simpa using h⟩]
 have:((l.drop a).take (((l.length:Nat):Int) - (a:Int)).toNat)=l.drop a:=Vd (by rw[T8]; lia)
 show S ((l.drop ((a:Int)).toNat).take (((l.length:Nat):Int) - (a:Int)).toNat)=_
 rw[show ((a:Int)).toNat=a by lia,this]
theorem Hy {q:List Nat} {x y:Nat}:fK (S (x::(q++[y]))) (some 1) (some (-1))=S q:=by
 have e:RB (some 1) (some (-1)) 1 (S (x::(q++[y]))).length=RB (some ((1:Nat):Int)) (some ((q.length+1:Nat):Int)) 1 (S (x::(q++[y]))).length:=by
  rw[cA,Rg,Rf]
  unfold RB
  dsimp only
  rw[if_pos (show (-1:Int) < 0 by decide),if_neg (show ¬ ((q.length+1:Nat):Int) < 0 by lia)]
  rw[Rk,show ((-1:Int)+((q.length+1+1:Nat):Int))=((q.length+1:Nat):Int) by lia]
  rfl
 have e2:fK (S (x::(q++[y]))) (some 1) (some (-1))=fK (S (x::(q++[y]))) (some ((1:Nat):Int)) (some ((q.length+1:Nat):Int)):=by
  unfold fK
  rw[e]
 rw[e2,qx (by lia) (by rw[Rg,Rf,Rk]; lia)]
 show S ((q++[y]).take (q.length+1 - 1))=_
 rw[Wt,Z3]
 rfl
mutual
def pd:Dm->Bool
 | .int _=>true
 | .str _=>true
 | .tup ds=>decide (ds.length<=200000) && pdL ds
 | _=>false
def pdL:List Dm->Bool
 | []=>true
 | d::r=>pd d && pdL r
end
theorem qT {ds:List Dm} (h:pd (.tup ds)=true):ds.length<=200000/\pdL ds=true:=by
 rw[pd,Rp] at h
 exact⟨of_decide_eq_true h.1,h.2⟩
theorem Hr {ds:List Dm} (h1:ds.length<=200000) (h2:pdL ds=true):pd (.tup ds)=true:=by
 rw[pd,decide_eq_true h1,h2]
 rfl
theorem wQ:∀ ds:List Dm,pdL ds=ds.all pd
 | []=>by rw[pdL]; rfl
 | d::r=>by rw[pdL,wQ r]; rfl
theorem Jf {ds:List Dm} (h:pdL ds=true) {d:Dm} (hd:d∈ds):pd d=true:=by
 rw[wQ] at h
 exact List.all_eq_true.mp h d hd
theorem qg {ds:List Dm} (h:∀ d∈ds,pd d=true):pdL ds=true:=by
 rw[wQ]
 exact List.all_eq_true.mpr h
theorem pW {n:Nat}:∀ {ds:List Dm},(∀ d∈ds,d.dep<=n)->jb ds<=n
 | [],_=>by rw[jb]; exact Sd _
 | d::r,h=>by
  rw[jb]
  have h1:=h d Rc
  have h2:=pW (ds:=r) fun e he=>h e (Ri _ he)
  lia
def isNum (d:Dm) (lo hi:Int):Bool:=match d with
 | .int i=>decide (lo<=i) && decide (i<=hi)
 | _=>false
def numOf (d:Dm):Int:=match d with
 | .int i=>i
 | _=>0
def Az (hi:Int):Int->List Dm->Bool
 | _,[]=>true
 | lo,d::r=>isNum d lo hi && Az hi (numOf d+1) r
def Dq (many:Int) (d:Dm) (few:Int):Bool:=match d with
 | .tup ds=>decide (few<=(ds.length:Int)) && Az (many - 1) 0 ds
 | _=>false
def cY (ds:List Dm) (z:Str):Bool:=eqD (ds.getD 0 .non) (.str z)
def arP (f:Dm->Bool) (d:Dm):Bool:=match d with
 | .tup es=>isNum (.int (es.length:Int)) 2 6 && es.all f
 | _=>false
def isT (many:Int):Nat->Dm->Bool
 | 0,_=>false
 | n+1,d=>match d with
  | .tup ds =>
   if ds.length=0 then false
   else if (cY ds "free" || cY ds "never")=true then decide (ds.length=1)
   else if cY ds "gives" = true then decide (ds.length=3) && (isNum (ds.getD 1 .non) 0 (many - 1) && isNum (ds.getD 2 .non) 1 9)
   else if cY ds "sum" = true then decide (ds.length=3) && (Dq many (ds.getD 1 .non) 2 && isNum (ds.getD 2 .non) 1 99)
   else if cY ds "crowd" = true then decide (ds.length=4) && (Dq many (ds.getD 1 .non) 1 && (isNum (ds.getD 2 .non) 1 9 && isNum (ds.getD 3 .non) 1 12))
   else if (cY ds "all" || cY ds "any")=true then decide (ds.length=2) && arP (isT many n) (ds.getD 1 .non)
   else false
  | _=>false
theorem sV {H:Hp} {xs:List V} {ds:List Dm} (r:eN H xs ds) {k:Nat} (h:k < ds.length):∃ v,xs[k]? = some v/\Rep H v (ds.getD k .non):=by
 obtain⟨v,d,e1,e2,e3⟩:=r.get (i:=k) (by have:=r.length; lia)
 exact⟨v,e1,by rw[RZ,e2]; exact e3⟩
theorem Jq {ds:List Dm} (h:pdL ds=true) {k:Nat} (hk:k < ds.length):pd (ds.getD k .non)=true:=by
 rw[RZ,Rn hk]
 exact Jf h (Wb hk)
theorem lM {H:Hp}:∀ {vs us:List V} {ds es:List Dm},eN H vs ds->eN H us es->eN H (vs++us) (ds++es)
 | _,_,_,_,.nil,h=>h
 | _,_,_,_,.cons a r,h=>.cons a (lM r h)
theorem yP (hi:Int):∀ (ns:List Int) (lo:Int),Az hi lo (ns.map Dm.int)=true ↔ (∀ n∈ns,lo<=n/\n<=hi)/\ns.Pairwise (· < ·)
 | [],lo=>by simp [Az]
 | n::r,lo=>by
  rw[Tv,Az,Rp,yP hi r]
  unfold isNum numOf
  simp only[Rp,decide_eq_true_eq,Ul,Tu,forall_eq_or_imp]
  constructor
  ·rintro⟨⟨a,b⟩,c,d⟩
   exact⟨⟨⟨a,b⟩,fun m hm=>⟨by have:=(c m hm).1; lia,(c m hm).2⟩⟩,fun m hm=>by have:=(c m hm).1; lia,d⟩
  ·rintro⟨⟨⟨a,b⟩,c⟩,d,e⟩
   exact⟨⟨a,b⟩,fun m hm=>⟨by have:=d m hm; lia,(c m hm).2⟩,e⟩
def rF:List Nat:=[48,49,50,51,52,53,54,55,56,57]
def qt:List Nat:=[102,114,101,101]
def jE:List Nat:=[110,101,118,101,114]
def Fi (l:List Nat):Nat:=l.foldl (fun n x=>10 * n+(x - 48)) 0
def Jp (l:List Nat):Prop:=(1<=l.length/\l.length<=9)/\(∀ x∈l,x∈rF)/\¬ (l.head? = some 48/\1 < l.length)
instance (l:List Nat):Decidable (Jp l):=by unfold Jp; infer_instance
def cZ (l:List Nat):Option Nat:=if Jp l then some (Fi l) else none
def spl (c:Nat):List Nat->List (List Nat)
 | []=>[[]]
 | x::r=>if x=c then []::spl c r else match spl c r with
  | p::ps=>(x::p)::ps
  | []=>[[x]]
theorem fG (c:Nat):∀ l:List Nat,spl c l≠[]
 | []=>by simp [spl]
 | x::r=>by
  rw[spl]
  split
  ·simp
  ·split <;> simp
theorem oY (c:Nat):∀ l:List Nat,∀ p∈spl c l,c ∉ p
 | []=>fun p hp=>by rw[spl] at hp; rw[List.mem_singleton.mp hp]; simp
 | x::r=>fun p hp=>by
  have ih:=oY c r
  rw[spl] at hp
  split at hp
  ·rcases List.mem_cons.mp hp with rfl | hp
   ·simp
   ·exact ih p hp
  ·rename_i hx
   split at hp
   ·rename_i q qs e
    rw[e] at ih
    rcases List.mem_cons.mp hp with rfl | hp
    ·intro z
     rcases List.mem_cons.mp z with z | z
     ·exact hx z.symm
     ·exact ih q Rc z
    ·exact ih p (Ri _ hp)
   ·rename_i e
    exact absurd e (fG c r)
theorem DN {c:Nat} {p:List Nat}:∀ {ps:List (List Nat)},ps≠[]->jn c (p::ps)=p++c::jn c ps
 | [],h=>absurd rfl h
 | _::_,_=>rfl
theorem jn2 (c:Nat) (p q:List Nat) (r:List (List Nat)):jn c (p::q::r)=p++c::jn c (q::r):=rfl
theorem vB (c:Nat):∀ l:List Nat,jn c (spl c l)=l
 | []=>rfl
 | x::r=>by
  have ih:=vB c r
  rw[spl]
  split
  ·rename_i hx
   rw[DN (fG c r),ih,hx]
   rfl
  ·split
   ·rename_i p ps e
    rw[e] at ih
    cases ps with
    | nil=>rw[← ih]; rfl
    | cons q qs=>rw[← ih]; rfl
   ·rename_i e
    exact absurd e (fG c r)
theorem mC {c:Nat}:∀ {l:List Nat},c ∉ l->spl c l=[l]
 | [],_=>rfl
 | x::r,h=>by
  rw[spl,if_neg (fun z=>h (by rw[z]; exact Rc)),mC (fun z=>h (Ri _ z))]
theorem xG {c:Nat} {b:List Nat} (hb:c ∉ b):∀ a:List Nat,spl c (a++c::b)=spl c a++[b]
 | []=>by
  show (if c=c then []::spl c b else _)=_
  rw[if_pos rfl,mC hb]; rfl
 | x::a=>by
  rw[Tg,spl,xG hb a,spl]
  split
  ·rfl
  ·cases e:spl c a with
   | nil=>exact absurd e (fG c a)
   | cons p ps=>rfl
theorem tH {c:Nat} {l:List Nat} (h:(spl c l).length=1):c ∉ l:=by
 match e:spl c l,h with
 | [p],_ =>
  have h1:=oY c l p (by rw[e]; exact Rc)
  have h2:=vB c l
  rw[e] at h2
  rw[← show p=l from h2]
  exact h1
theorem ur {c x:Nat}:∀ {l:List Nat},x∈l->x≠c->∃ p∈spl c l,x∈p
 | [],h,_=>by cases h
 | y::r,h,hn=>by
  rw[spl]
  split
  ·rename_i e
   rcases List.mem_cons.mp h with z | z
   ·exact absurd (z.trans e) hn
   ·obtain⟨p,h1,h2⟩:=ur z hn
    exact⟨p,Ri _ h1,h2⟩
  ·split
   ·rename_i q qs e
    rcases List.mem_cons.mp h with z | z
    ·exact⟨_,Rc,by rw[z]; exact Rc⟩
    ·obtain⟨p,h1,h2⟩:=ur z hn
     rw[e] at h1
     rcases List.mem_cons.mp h1 with rfl | h1
     ·exact⟨_,Rc,Ri _ h2⟩
     ·exact⟨p,Ri _ h1,h2⟩
   ·rename_i e
    exact absurd e (fG c r)
def dX {α β:Type} (f:α->Option β):List α->Option (List β)
 | []=>some []
 | x::r=>match f x with
  | some a=>(match dX f r with
   | some b=>some (a::b)
   | none=>none)
  | none=>none
theorem jr {α β:Type} {f:α->Option β}:∀ {l:List α} {x:α},x∈l->f x=none->dX f l=none
 | y::r,x,h,e=>by
  rw[dX]
  rcases List.mem_cons.mp h with rfl | h
  ·rw[e]
  ·rw[jr h e]
   split <;> rfl
theorem cg {α β:Type} {f:α->Option β}:∀ {l:List α} {ys:List β},dX f l=some ys->ys.length=l.length
 | [],_,e=>by cases e; rfl
 | x::r,ys,e=>by
  rw[dX] at e
  split at e
  ·split at e
   ·rename_i b eb
    cases e
    rw[Rg,Rg,cg eb]
   ·cases e
  ·cases e
theorem mJ {α β:Type} {f:α->Option β} {x:α} {r:List α} {ys:List β} (e:dX f (x::r)=some ys):∃ a b,f x=some a/\dX f r=some b/\ys=a::b:=by
 rw[dX] at e
 split at e
 ·rename_i a ea
  split at e
  ·rename_i b eb
   cases e
   exact⟨a,b,ea,eb,rfl⟩
  ·cases e
 ·cases e
theorem jN {α β:Type} {f:α->Option β}:∀ {l:List α} {ys:List β},dX f l=some ys->∀ x∈l,∃ y∈ys,f x=some y
 | [],_,_=>fun x hx=>by cases hx
 | z::r,ys,e=>fun x hx=>by
  obtain⟨a,b,h1,h2,rfl⟩:=mJ e
  rcases List.mem_cons.mp hx with rfl | hx
  ·exact⟨a,Rc,h1⟩
  ·obtain⟨y,h3,h4⟩:=jN h2 x hx
   exact⟨y,Ri _ h3,h4⟩
theorem BK {α β:Type} {f:α->Option β}:∀ {l:List α},(∀ x∈l,∃ y,f x=some y)->∃ ys,dX f l=some ys
 | [],_=>⟨[],rfl⟩
 | z::r,h=>by
  obtain⟨y,e⟩:=h z Rc
  obtain⟨ys,es⟩:=BK (l:=r) fun x hx=>h x (Ri _ hx)
  exact⟨y::ys,by rw[dX,e,es]⟩
def rdC (l:List Nat):Option (List Nat):=dX cZ (spl 43 l)
def rpL (c:Nat):List Nat->Option (List Nat × List Nat)
 | []=>none
 | x::r=>match rpL c r with
  | some (a,b)=>some (x::a,b)
  | none=>if x=c then some ([],r) else none
theorem lA {c:Nat}:∀ {l:List Nat},rpL c l=none->c ∉ l
 | [],_=>by simp
 | x::r,e=>by
  rw[rpL] at e
  split at e
  ·cases e
  ·rename_i e2
   split at e
   ·cases e
   ·rename_i hx
    intro z
    rcases List.mem_cons.mp z with z | z
    ·exact hx z.symm
    ·exact lA e2 z
theorem d7 {c:Nat}:∀ {l a b:List Nat},rpL c l=some (a,b)->l=a++c::b/\c ∉ b
 | [],_,_,e=>by cases e
 | x::r,a,b,e=>by
  rw[rpL] at e
  split at e
  ·rename_i a' b' e2
   obtain⟨h1,h2⟩:=d7 e2
   cases e
   exact⟨by rw[h1]; rfl,h2⟩
  ·rename_i e2
   split at e
   ·rename_i hx
    cases e
    exact⟨by rw[hx]; rfl,lA e2⟩
   ·cases e
theorem uC {l:List Nat} {x:Nat} (h:x∈l) (hx:x ∉ rF):cZ l=none:=if_neg fun z=>hx (z.2.1 x h)
theorem iC {l:List Nat} {n:Nat} (h:cZ l=some n):∀ x∈l,x∈rF:=by
 unfold cZ at h
 split at h
 ·rename_i z
  exact z.2.1
 ·cases h
theorem Et {l:List Nat} {x:Nat} (h:x∈l) (hx:x ∉ rF) (h43:x≠43):rdC l=none:=by
 obtain⟨p,h1,h2⟩:=ur h h43
 exact jr h1 (uC h2 hx)
theorem o9 {l c:List Nat} (h:rdC l=some c):∀ x∈l,x∈rF∨x=43:=fun x hx=>by
 by_cases e:x=43
 ·exact .inr e
 ·obtain⟨p,h1,h2⟩:=ur hx e
  obtain⟨y,_,e2⟩:=jN h p h1
  exact .inl (iC e2 x h2)
def dI (n:Nat):Dm:=.int (n:Int)
def gvD (n k:Nat):Dm:=.tup [.str "gives",dI n,dI k]
def smD (c:List Nat) (k:Nat):Dm:=.tup [.str "sum",.tup (c.map dI),dI k]
def crD (c:List Nat) (k m:Nat):Dm:=.tup [.str "crowd",.tup (c.map dI),dI k,dI m]
def frD:Dm:=.tup [.str "free"]
def nvD:Dm:=.tup [.str "never"]
def rpH (c:Nat) (l:List Nat):List Nat × List Nat:=(rpL c l).getD ([],l)
def rdP (l:List Nat):Option Dm :=
 if l=qt then some frD else if l=jE then some nvD else
 match rpL 42 (rpH 58 l).1 with
 | some (m,cr)=>(rdC cr).bind fun c=>(cZ (rpH 58 l).2).bind fun k=>(cZ m).map fun n=>crD c k n
 | none=>if 43∈(rpH 58 l).1 then (rdC (rpH 58 l).1).bind fun c=>(cZ (rpH 58 l).2).map fun k=>smD c k
  else (cZ (rpH 58 l).1).bind fun n=>(cZ (rpH 58 l).2).map fun k=>gvD n k
def lwN (hd:List (List Nat)) (ns:List Nat) (k:Nat):Option Dm :=
 if ¬ ns.Pairwise (· < ·)∨11 < ns.getLastD 0 then none
 else if hd.length=2 then (cZ (hd.headD [])).bind fun m=>if (1<=m/\m<=12)/\(1<=k/\k<=9) then some (crD ns k m) else none
 else if ns.length=1 then (if 1<=k/\k<=9 then some (gvD (ns.headD 0) k) else none)
 else if 1<=k/\k<=99 then some (smD ns k) else none
def lwP (l:List Nat):Option Dm :=
 if l=qt then some frD else if l=jE then some nvD else
 if (spl 58 l).length≠2 then none else
 if 2 < (spl 42 ((spl 58 l).headD [])).length then none else
 (rdC ((spl 42 ((spl 58 l).headD [])).getLastD [])).bind fun ns=>(cZ ((spl 58 l).getLastD [])).bind fun k=>lwN (spl 42 ((spl 58 l).headD [])) ns k
theorem vH {α:Type} {a:α} {r:List α}:¬ (a::r).length=0:=nofun
theorem Lp (n:Nat) (i k:Nat):isT 12 (n+1) (gvD i k)=(decide (i<=11) && decide (1<=k/\k<=9)):=by
 rw[Td]
 show isT 12 (n+1) (.tup [.str "gives",dI i,dI k])=true ↔ _
 rw[isT]
 rw[if_neg (vH),if_neg (by show ¬ (eqD (.str "gives") (.str "free") || eqD (.str "gives") (.str "never"))=true; decide+kernel),if_pos (by show eqD (.str "gives") (.str "gives")=true; decide+kernel)]
 show (true && (isNum (dI i) 0 (12 - 1) && isNum (dI k) 1 9))=true ↔ _
 unfold isNum dI
 simp only[Tq,Rp,decide_eq_true_eq]
 lia
theorem Ed {c:List Nat}:Az (12 - 1) 0 (c.map dI)=true ↔ (∀ i∈c,i<=11)/\c.Pairwise (· < ·):=by
 have e:c.map dI=(c.map fun n:Nat=>(n:Int)).map Dm.int:=by rw[Vq]; rfl
 rw[e,yP,VL]
 constructor
 ·rintro⟨h1,h2⟩
  exact⟨fun i hi=>by have:=h1 i (YL hi); lia,h2.imp fun h=>by lia⟩
 ·rintro⟨h1,h2⟩
  refine⟨fun n hn=>?_,h2.imp fun h=>by lia⟩
  obtain⟨i,hi,rfl⟩:=List.mem_map.mp hn
  have:=h1 i hi
  lia
theorem Nk (n:Nat) (c:List Nat) (k:Nat):isT 12 (n+1) (smD c k)=true ↔ 2<=c.length/\(∀ i∈c,i<=11)/\c.Pairwise (· < ·)/\1<=k/\k<=99:=by
 show isT 12 (n+1) (.tup [.str "sum",.tup (c.map dI),dI k])=true ↔ _
 rw[isT]
 rw[if_neg (vH),if_neg (by show ¬ (cY _ _ || cY _ _)=true; show ¬ (eqD (.str "sum") (.str "free") || eqD (.str "sum") (.str "never"))=true; decide+kernel),if_neg (by show ¬ eqD (.str "sum") (.str "gives")=true; decide+kernel),if_pos (by show eqD (.str "sum") (.str "sum")=true; decide+kernel)]
 show (true && (Dq 12 (.tup (c.map dI)) 2 && isNum (dI k) 1 99))=true ↔ _
 unfold Dq isNum
 dsimp only [dI]
 rw[Tq,Rp,Rp,Rp,decide_eq_true_eq,decide_eq_true_eq,decide_eq_true_eq,Q8]
 have:=@Ed c
 constructor
 ·rintro⟨⟨h1,h2⟩,h3,h4⟩
  obtain⟨h5,h6⟩:=this.mp h2
  exact⟨by lia,h5,h6,by lia,by lia⟩
 ·rintro⟨h1,h5,h6,h3,h4⟩
  exact⟨⟨by lia,this.mpr ⟨h5,h6⟩⟩,by lia,by lia⟩
theorem M5 (n:Nat) (c:List Nat) (k m:Nat):isT 12 (n+1) (crD c k m)=true ↔ 1<=c.length/\(∀ i∈c,i<=11)/\c.Pairwise (· < ·)/\(1<=k/\k<=9)/\1<=m/\m<=12:=by
 show isT 12 (n+1) (.tup [.str "crowd",.tup (c.map dI),dI k,dI m])=true ↔ _
 rw[isT]
 rw[if_neg (vH),if_neg (by show ¬ (eqD (.str "crowd") (.str "free") || eqD (.str "crowd") (.str "never"))=true; decide+kernel),if_neg (by show ¬ eqD (.str "crowd") (.str "gives")=true; decide+kernel),if_neg (by show ¬ eqD (.str "crowd") (.str "sum")=true; decide+kernel),if_pos (by show eqD (.str "crowd") (.str "crowd")=true; decide+kernel)]
 show (true && (Dq 12 (.tup (c.map dI)) 1 && (isNum (dI k) 1 9 && isNum (dI m) 1 12)))=true ↔ _
 unfold Dq isNum
 dsimp only [dI]
 rw[Tq,Rp,Rp,Rp,Rp,Rp,decide_eq_true_eq,decide_eq_true_eq,decide_eq_true_eq,decide_eq_true_eq,decide_eq_true_eq,Q8]
 have:=@Ed c
 constructor
 ·rintro⟨⟨h1,h2⟩,h3,h4⟩
  obtain⟨h5,h6⟩:=this.mp h2
  exact⟨by lia,h5,h6,by lia,by lia⟩
 ·rintro⟨h1,h5,h6,h3,h4⟩
  exact⟨⟨by lia,this.mpr ⟨h5,h6⟩⟩,by lia,by lia⟩
theorem Mw (n:Nat):isT 12 (n+1) frD=true:=by
 show isT 12 (n+1) (.tup [.str "free"])=true
 rw[isT,if_neg (by decide),if_pos (by unfold cY; decide+kernel)]
 rfl
theorem Ls (n:Nat):isT 12 (n+1) nvD=true:=by
 show isT 12 (n+1) (.tup [.str "never"])=true
 rw[isT,if_neg (by decide),if_pos (by unfold cY; decide+kernel)]
 rfl
theorem qG:∀ {c:List Nat},c.Pairwise (· < ·)->((∀ i∈c,i<=11) ↔ ¬ 11 < c.getLastD 0)
 | [],_=>by simp
 | [a],_=>by simp
 | a::b::r,h=>by
  have ih:=qG (c:=b::r) (List.pairwise_cons.mp h).2
  have e:(a::b::r).getLastD 0=(b::r).getLastD 0:=by simp [List.getLastD]
  rw[e,← ih]
  constructor
  ·exact fun z i hi=>z i (Ri _ hi)
  ·intro z i hi
   rcases List.mem_cons.mp hi with rfl | hi
   ·have h1:=(List.pairwise_cons.mp h).1 b Rc
    have h2:=z b Rc
    lia
   ·exact z i hi
theorem tR {d:Dm} {p:Dm->Bool} {c:Prop} [Decidable c] (h:p d=true ↔ c):(some d).filter p=if c then some d else none:=by
 rw[Vg]
 by_cases z:c
 ·rw[if_pos z,if_pos (h.mpr z)]
 ·rw[if_neg z,if_neg (fun y=>z (h.mp y))]
theorem wM (n:Nat) (l:List Nat):lwP l=(rdP l).filter (isT 12 (n+1)):=by
 unfold lwP rdP
 by_cases hf:l=qt
 ·rw[if_pos hf,if_pos hf,Vg,if_pos (Mw n)]
 rw[if_neg hf,if_neg hf]
 by_cases hn:l=jE
 ·rw[if_pos hn,if_pos hn,Vg,if_pos (Ls n)]
 rw[if_neg hn,if_neg hn]
 unfold rpH
 cases e58:rpL 58 l with
 | none =>
  rw[mC (lA e58),if_pos (by simp)]
  rfl
 | some ab =>
  obtain⟨a,b⟩:=ab
  obtain⟨el,hb⟩:=d7 e58
  have es:spl 58 l=spl 58 a++[b]:=by rw[el,xG hb]
  rw[es]
  simp only[XQ]
  by_cases ha:58∈a
  ·have l2:(spl 58 a++[b]).length≠2:=fun z=>by
    rw[Rf,Rk] at z
    exact tH (by lia) ha
   rw[if_pos l2]
   cases e42:rpL 42 a with
   | none =>
    dsimp only
    split
    ·rw[Et ha (by decide) (by decide)]; rfl
    ·rw[uC ha (by decide)]; rfl
   | some mc =>
    obtain⟨m,cr⟩:=mc
    obtain⟨ea,hc⟩:=d7 e42
    dsimp only
    rw[ea] at ha
    rcases List.mem_append.mp ha with z | z
    ·rw[uC z (by decide)]
     cases rdC cr <;> cases cZ b <;> rfl
    ·rcases List.mem_cons.mp z with z | z
     ·cases z
     ·rw[Et z (by decide) (by decide)]; rfl
  ·rw[mC ha,if_neg (by simp)]
   show (if 2 < (spl 42 a).length then none else (rdC ((spl 42 a).getLastD [])).bind fun ns=>(cZ b).bind fun k=>lwN (spl 42 a) ns k)=_
   cases e42:rpL 42 a with
   | none =>
    dsimp only
    rw[mC (lA e42),if_neg (by simp)]
    show ((rdC a).bind fun ns=>(cZ b).bind fun k=>lwN [a] ns k)=_
    by_cases h43:43∈a
    ·rw[if_pos h43]
     cases ec:rdC a with
     | none=>rfl
     | some c =>
      have l2:2<=c.length:=by
       have e1:=cg ec
       have e2:(spl 43 a).length≠1:=fun z=>tH z h43
       have e3:(spl 43 a).length≠0:=fun z=>fG 43 a (List.length_eq_zero_iff.mp z)
       lia
      cases ek:cZ b with
      | none=>rfl
      | some k =>
       show lwN [a] c k=(some (smD c k)).filter _
       rw[tR (Nk n c k)]
       unfold lwN
       by_cases hp:c.Pairwise (· < ·)
       ·have lm:=qG hp
        by_cases h11:11 < c.getLastD 0
        ·rw[if_pos (.inr h11),if_neg (fun z=>lm.mp z.2.1 h11)]
        ·rw[if_neg (fun z=>z.elim (fun y=>y hp) h11),if_neg (by simp),if_neg (by lia)]
         by_cases hk:1<=k/\k<=99
         ·rw[if_pos hk,if_pos ⟨l2,lm.mpr h11,hp,hk⟩]
         ·rw[if_neg hk,if_neg (fun z=>hk z.2.2.2)]
       ·rw[if_pos (.inl hp),if_neg (fun z=>hp z.2.2.1)]
    ·rw[if_neg h43]
     unfold rdC
     rw[mC h43,dX]
     cases en:cZ a with
     | none=>rfl
     | some i =>
      cases ek:cZ b with
      | none=>rfl
      | some k =>
       show lwN [a] [i] k=(some (gvD i k)).filter _
       rw[tR (c:=i<=11/\1<=k/\k<=9) (by rw[Lp,Rp,decide_eq_true_eq,decide_eq_true_eq])]
       unfold lwN
       by_cases h11:11 < i
       ·rw[if_pos (.inr h11),if_neg (fun z=>by lia)]
       ·rw[if_neg (fun z=>z.elim (fun y=>y (List.pairwise_singleton _ _)) h11),if_neg (by simp),if_pos (show[i].length=1 from rfl)]
        by_cases hk:1<=k/\k<=9
        ·rw[if_pos hk,if_pos ⟨by lia,hk⟩]; rfl
        ·rw[if_neg hk,if_neg (fun z=>hk z.2)]
   | some mc =>
    obtain⟨m,cr⟩:=mc
    obtain⟨ea,hc⟩:=d7 e42
    dsimp only
    rw[show spl 42 a=spl 42 m++[cr] by rw[ea,xG hc]]
    by_cases hm:42∈m
    ·rw[uC hm (by decide)]
     have l2:2 < (spl 42 m++[cr]).length:=by
      have e1:(spl 42 m).length≠1:=fun z=>tH z hm
      have e3:(spl 42 m).length≠0:=fun z=>fG 42 m (List.length_eq_zero_iff.mp z)
      rw[Rf,Rk]
      lia
     rw[if_pos l2]
     cases rdC cr <;> cases cZ b <;> rfl
    ·rw[mC hm,if_neg (by simp)]
     show ((rdC cr).bind fun ns=>(cZ b).bind fun k=>lwN [m,cr] ns k)=_
     cases ec:rdC cr with
     | none=>rfl
     | some c =>
      have l1:1<=c.length:=by
       have e1:=cg ec
       have e3:(spl 43 cr).length≠0:=fun z=>fG 43 cr (List.length_eq_zero_iff.mp z)
       lia
      cases ek:cZ b with
      | none=>rfl
      | some k =>
       show lwN [m,cr] c k=((cZ m).map fun n=>crD c k n).filter _
       unfold lwN
       cases em:cZ m with
       | none =>
        split
        ·rfl
        ·rw[if_pos (show[m,cr].length=2 from rfl)]
         show (cZ m).bind _=none
         rw[em]; rfl
       | some mm =>
        show _=(some (crD c k mm)).filter _
        rw[tR (M5 n c k mm)]
        by_cases hp:c.Pairwise (· < ·)
        ·have lm:=qG hp
         by_cases h11:11 < c.getLastD 0
         ·rw[if_pos (.inr h11),if_neg (fun z=>lm.mp z.2.1 h11)]
         ·rw[if_neg (fun z=>z.elim (fun y=>y hp) h11),if_pos (show[m,cr].length=2 from rfl)]
          show (cZ m).bind _=_
          rw[em]
          show (if (1<=mm/\mm<=12)/\(1<=k/\k<=9) then some (crD c k mm) else none)=_
          by_cases hk:(1<=mm/\mm<=12)/\(1<=k/\k<=9)
          ·rw[if_pos hk,if_pos ⟨l1,lm.mpr h11,hp,hk.2,hk.1⟩]
          ·rw[if_neg hk,if_neg (fun z=>hk ⟨z.2.2.2.2,z.2.2.2.1⟩)]
        ·rw[if_pos (.inl hp),if_neg (fun z=>hp z.2.2.1)]
def clB:Nat->List Nat->Bool
 | d,[]=>d == 0
 | d,x::r=>if x=40 then clB (d+1) r else if x=41 then (!(d == 0) && clB (d - 1) r) else if d=0/\(x=38∨x=124) then false else clB d r
theorem tL (d:Nat) (r:List Nat):clB d (40::r)=clB (d+1) r:=by rw[clB,if_pos rfl]
theorem uD (d:Nat) (r:List Nat):clB (d+1) (41::r)=clB d r:=by rw[clB,if_neg (by decide),if_pos rfl]; rfl
theorem Gn (r:List Nat):clB 0 (41::r)=false:=by rw[clB,if_neg (by decide),if_pos rfl]; rfl
theorem JW {x:Nat} (r:List Nat) (h1:x≠40) (h2:x≠41) (h:x=38∨x=124):clB 0 (x::r)=false:=by rw[clB,if_neg h1,if_neg h2,if_pos ⟨rfl,h⟩]
theorem mq {x d:Nat} (r:List Nat) (h1:x≠40) (h2:x≠41) (h:¬ (d=0/\(x=38∨x=124))):clB d (x::r)=clB d r:=by rw[clB,if_neg h1,if_neg h2,if_neg h]
theorem zc:∀ {l:List Nat},(∀ x∈l,x≠40/\x≠41/\x≠38/\x≠124)->clB 0 l=true
 | [],_=>rfl
 | x::r,h=>by
  obtain⟨h1,h2,h3,h4⟩:=h x Rc
  rw[mq r h1 h2 (fun z=>z.2.elim h3 h4),zc fun y hy=>h y (Ri _ hy)]
theorem sX {P:Nat->List Nat->Prop} (h0:P 0 []) (h1:∀ d r,clB (d+1) r=true->P (d+1) r->P d (40::r)) (h2:∀ d r,clB d r=true->P d r->P (d+1) (41::r))
  (h3:∀ d x r,x≠40->x≠41->¬ (d=0/\(x=38∨x=124))->clB d r=true->P d r->P d (x::r)):∀ (l:List Nat) (d:Nat),clB d l=true->P d l
 | [],d,h=>by
  have:d=0:=by simpa [clB] using h
  rw[this]; exact h0
 | x::r,d,h=>by
  by_cases x40:x=40
  ·subst x40
   rw[tL] at h
   exact h1 d r h (sX h0 h1 h2 h3 r (d+1) h)
  ·by_cases x41:x=41
   ·subst x41
    cases d with
    | zero=>rw[Gn] at h; cases h
    | succ e =>
     rw[uD] at h
     exact h2 e r h (sX h0 h1 h2 h3 r e h)
   ·by_cases z:d=0/\(x=38∨x=124)
    ·obtain⟨rfl,z⟩:=z
     rw[JW r x40 x41 z] at h
     cases h
    ·rw[mq r x40 x41 z] at h
     exact h3 d x r x40 x41 z h (sX h0 h1 h2 h3 r d h)
theorem Nu (k:Nat) (q:List Nat) (l:List Nat) (d:Nat) (h:clB d l=true):clB (d+k+1) (l++q)=clB (k+1) q:=by
 refine sX (P:=fun d l=>clB (d+k+1) (l++q)=clB (k+1) q) ?_ ?_ ?_ ?_ l d h
 ·rw[Nat.zero_add]; rfl
 ·intro d r _ ih
  rw[Tg,tL,← ih]
  congr 1
  lia
 ·intro d r _ ih
  rw[Tg,show d+1+k+1=(d+k+1)+1 by lia,uD,ih]
 ·intro d x r h1 h2 h3 _ ih
  rw[Tg,mq _ h1 h2 (by lia),ih]
theorem xY {s:Nat} (hs:s=38∨s=124) (q:List Nat) (l:List Nat) (d:Nat) (h:clB d l=true):∀ cur,so s (l++q) (d:Int) cur=so s q 0 (cur++l):=by
 refine sX (P:=fun d l=>∀ cur,so s (l++q) (d:Int) cur=so s q 0 (cur++l)) ?_ ?_ ?_ ?_ l d h
 ·intro cur; rw[Ss]; rfl
 ·intro d r _ ih cur
  rw[Tg,so,if_pos rfl,show (d:Int)+1=((d+1:Nat):Int) by lia,ih,RG]; rfl
 ·intro d r _ ih cur
  rw[Tg,so,if_neg (by decide),if_pos rfl,show ((d+1:Nat):Int) - 1=(d:Int) by lia,ih,RG]; rfl
 ·intro d x r h1 h2 h3 _ ih cur
  rw[Tg,so,if_neg h1,if_neg h2,if_neg (fun z=>h3 ⟨by lia,by rcases hs with rfl | rfl <;> lia⟩),ih,RG]; rfl
theorem Mh {s:Nat} (h1:s≠40) (h2:s≠41) (q:List Nat):∀ {ps:List (List Nat)},(∀ p∈ps,clB 0 p=true)->clB 1 (jn s ps++q)=clB 1 q
 | [],_=>rfl
 | [p],h=>by
  have:=Nu 0 q p 0 (h p Rc)
  exact this
 | p::p2::r,h=>by
  have h3:=Nu 0 (s::jn s (p2::r)++q) p 0 (h p Rc)
  rw[jn2,RG,Tg]
  refine h3.trans ?_
  rw[Nat.zero_add,Tg,mq _ h1 h2 (by lia),Mh h1 h2 q fun x hx=>h x (Ri _ hx)]
theorem O3 {s:Nat} (h1:s≠40) (h2:s≠41) {ps:List (List Nat)} (h:∀ p∈ps,clB 0 p=true):clB 0 (40::(jn s ps++[41]))=true:=by
 rw[tL,Mh h1 h2 [41] h,uD]
 rfl
theorem CT {s:Nat} (hs:s=38∨s=124) {ps:List (List Nat)} (ne:ps≠[]) (h:∀ p∈ps,clB 0 p=true):so s (jn s ps) 0 []=ps:=by
 cases ps with
 | nil=>exact absurd rfl ne
 | cons p r =>
  have:=MT (c:=s) (ps:=r) (p:=p) (cur:=[]) (by lia) (by lia) fun q hq=>fun t cur=>xY hs t q 0 (h q hq) cur
  rw[this]
  rfl
theorem yC {s e:Nat} (hs:s=38∨s=124) (he:e=38∨e=124) (hn:e≠s):∀ {ps:List (List Nat)},ps≠[]->(∀ p∈ps,clB 0 p=true)->∀ cur,so s (jn e ps) 0 cur=[cur++jn e ps]
 | [],ne,_,_=>absurd rfl ne
 | [p],_,h,cur=>by
  have:=xY hs [] p 0 (h p Rc) cur
  rw[Ss] at this
  exact this
 | p::p2::r,_,h,cur=>by
  have:=xY hs (e::jn e (p2::r)) p 0 (h p Rc) cur
  rw[jn2]
  ·refine this.trans ?_
   rw[so,if_neg (by lia),if_neg (by lia),if_neg (fun z=>hn z.1),yC hs he hn (by simp) fun x hx=>h x (Ri _ hx)]
   rw[RG,RG]
   rfl
def pcA:List Nat->Int->List (List Nat)->List Nat->List Nat->Option (List (List Nat)) × List Nat
 | [],d,ps,cur,fs=>(if d=0 then some (ps++[cur]) else none,fs)
 | x::r,d,ps,cur,fs=>if d+(if x=40 then 1 else 0) - (if x=41 then 1 else 0) < 0 then (none,[]) else
  if d+(if x=40 then 1 else 0) - (if x=41 then 1 else 0)=0/\(x=38∨x=124) then pcA r (d+(if x=40 then 1 else 0) - (if x=41 then 1 else 0)) (ps++[cur]) [] (fs++[x])
  else pcA r (d+(if x=40 then 1 else 0) - (if x=41 then 1 else 0)) ps (cur++[x]) fs
theorem BZ (r:List Nat) (d:Nat) (ps:List (List Nat)) (cur fs:List Nat):pcA (40::r) (d:Int) ps cur fs=pcA r ((d+1:Nat):Int) ps (cur++[40]) fs:=by
 rw[pcA,if_pos rfl,if_neg (by decide:¬ 40=41),if_neg (by lia),if_neg (by lia)]
 congr 1
theorem CN (r:List Nat) (d:Nat) (ps:List (List Nat)) (cur fs:List Nat):pcA (41::r) ((d+1:Nat):Int) ps cur fs=pcA r (d:Int) ps (cur++[41]) fs:=by
 rw[pcA,if_neg (by decide:¬ 41=40),if_pos rfl,if_neg (by lia),if_neg (by lia)]
 congr 1
 lia
theorem GJ (r:List Nat) (ps:List (List Nat)) (cur fs:List Nat):pcA (41::r) 0 ps cur fs=(none,[]):=by
 rw[pcA,if_neg (by decide:¬ 41=40),if_pos rfl,if_pos (by decide)]
theorem yW {x d:Nat} (r:List Nat) (ps:List (List Nat)) (cur fs:List Nat) (h1:x≠40) (h2:x≠41) (h:¬ (d=0/\(x=38∨x=124))):pcA (x::r) (d:Int) ps cur fs=pcA r (d:Int) ps (cur++[x]) fs:=by
 rw[pcA,if_neg h1,if_neg h2,if_neg (by lia),if_neg (by lia)]
 congr 1
theorem za {x:Nat} (r:List Nat) (ps:List (List Nat)) (cur fs:List Nat) (h:x=38∨x=124):pcA (x::r) 0 ps cur fs=pcA r 0 (ps++[cur]) [] (fs++[x]):=by
 have e0:(if x=40 then (1:Int) else 0)=0:=if_neg (by lia)
 have e1:(if x=41 then (1:Int) else 0)=0:=if_neg (by lia)
 rw[pcA,e0,e1,if_neg (by decide),if_pos ⟨by decide,h⟩]
 rfl
theorem Ig (q:List Nat) (l:List Nat) (d:Nat) (h:clB d l=true):∀ ps cur fs,pcA (l++q) (d:Int) ps cur fs=pcA q 0 ps (cur++l) fs:=by
 refine sX (P:=fun d l=>∀ ps cur fs,pcA (l++q) (d:Int) ps cur fs=pcA q 0 ps (cur++l) fs) ?_ ?_ ?_ ?_ l d h
 ·intro ps cur fs; rw[Ss]; rfl
 ·intro d r _ ih ps cur fs
  rw[Tg,BZ,ih,RG]; rfl
 ·intro d r _ ih ps cur fs
  rw[Tg,CN,ih,RG]; rfl
 ·intro d x r h1 h2 h3 _ ih ps cur fs
  rw[Tg,yW _ _ _ _ h1 h2 h3,ih,RG]; rfl
theorem Hv {s:Nat} (hs:s=38∨s=124):∀ {p:List Nat} {ps:List (List Nat)},(∀ q∈p::ps,clB 0 q=true)->∀ qs cur fs,pcA (jn s (p::ps)) 0 qs cur fs=(some (qs++(cur++p)::ps),fs++Rq ps.length s)
 | p,[],h,qs,cur,fs=>by
  have:=Ig [] p 0 (h p Rc) qs cur fs
  rw[Ss] at this
  refine this.trans ?_
  rw[pcA,if_pos rfl,Yp,List.replicate_zero,Ss]
 | p,p2::r,h,qs,cur,fs=>by
  have:=Ig (s::jn s (p2::r)) p 0 (h p Rc) qs cur fs
  rw[jn2]
  ·refine this.trans ?_
   rw[za _ _ _ _ hs,Hv hs fun x hx=>h x (Ri _ hx)]
   rw[RG,RG,Rg,Tz]
   rfl
def jnM:List (List Nat)->List Nat->List Nat
 | p::q::r,g::gs=>p++g::jnM (q::r) gs
 | p::_,_=>p
 | [],_=>[]
theorem Il (s:Nat):∀ ps:List (List Nat),jnM ps (Rq (ps.length - 1) s)=jn s ps
 | []=>rfl
 | [_]=>rfl
 | p::q::r=>by
  have ih:=Il s (q::r)
  show p++s::jnM (q::r) (Rq r.length s)=_
  rw[jn]
  ·rw[← ih]; rfl
def opn (d:Nat) (cur:List Nat):Prop:=∀ r,clB 0 (cur++r)=clB d r
theorem rY:∀ (l:List Nat) (d:Nat) (ps:List (List Nat)) (cur fs:List Nat) (qs:List (List Nat)) (gs:List Nat),opn d cur->pcA l (d:Int) ps cur fs=(some qs,gs) →
  ∃ (p:List Nat) (rest:List (List Nat)) (hs:List Nat),qs=ps++p::rest/\gs=fs++hs/\hs.length=rest.length/\(∀ x∈p::rest,clB 0 x=true)/\cur++l=jnM (p::rest) hs/\∀ x∈hs,x=38∨x=124
 | [],d,ps,cur,fs,qs,gs,ho,e=>by
  rw[pcA] at e
  split at e
  ·rename_i hd
   cases e
   have d0:d=0:=by lia
   refine⟨cur,[],[],rfl,by rw[Ss],rfl,fun x hx=>?_,by rw[Ss]; rfl,by simp⟩
   rw[List.mem_singleton.mp hx]
   have:=ho []
   rw[Ss,d0] at this
   exact this
  ·cases e
 | x::r,d,ps,cur,fs,qs,gs,ho,e=>by
  by_cases x40:x=40
  ·subst x40
   rw[BZ] at e
   have ho':opn (d+1) (cur++[40]):=fun t=>by
    rw[RG,ho]
    exact tL d t
   obtain⟨p,rest,hs,h1,h2,h3,h4,h5,h6⟩:=rY r (d+1) ps (cur++[40]) fs qs gs ho' e
   rw[RG] at h5
   exact⟨p,rest,hs,h1,h2,h3,h4,h5,h6⟩
  ·by_cases x41:x=41
   ·subst x41
    cases d with
    | zero=>rw[show ((0:Nat):Int)=0 from rfl,GJ] at e; cases e
    | succ d =>
     rw[CN] at e
     have ho':opn d (cur++[41]):=fun t=>by
      rw[RG,ho]
      exact uD d t
     obtain⟨p,rest,hs,h1,h2,h3,h4,h5,h6⟩:=rY r d ps (cur++[41]) fs qs gs ho' e
     rw[RG] at h5
     exact⟨p,rest,hs,h1,h2,h3,h4,h5,h6⟩
   ·by_cases z:d=0/\(x=38∨x=124)
    ·obtain⟨rfl,z⟩:=z
     rw[show ((0:Nat):Int)=0 from rfl,za _ _ _ _ z] at e
     obtain⟨p,rest,hs,h1,h2,h3,h4,h5,h6⟩:=rY r 0 (ps++[cur]) [] (fs++[x]) qs gs (fun t=>rfl) e
     refine⟨cur,p::rest,x::hs,by rw[h1,RG]; rfl,by rw[h2,RG]; rfl,by rw[Rg,Rg,h3],fun y hy=>?_,?_,fun y hy=>?_⟩
     ·rcases List.mem_cons.mp hy with rfl | hy
      ·have:=ho []
       rw[Ss] at this
       exact this
      ·exact h4 y hy
     ·rw[jnM,← h5]; rfl
     ·rcases List.mem_cons.mp hy with rfl | hy
      ·exact z
      ·exact h6 y hy
    ·rw[yW _ _ _ _ x40 x41 z] at e
     have ho':opn d (cur++[x]):=fun t=>by
      rw[RG,ho]
      exact mq t x40 x41 z
     obtain⟨p,rest,hs,h1,h2,h3,h4,h5,h6⟩:=rY r d ps (cur++[x]) fs qs gs ho' e
     rw[RG] at h5
     exact⟨p,rest,hs,h1,h2,h3,h4,h5,h6⟩
def jJ (l:List Nat):List Nat:=(l.drop 1).dropLast
def knd (s:Nat):Str:=if s=38 then "all" else "any"
def grD (s:Nat) (ds:List Dm):Dm:=.tup [.str (knd s),.tup ds]
def rdW:Nat->List Nat->Option Dm
 | 0,_=>none
 | d+1,l=>if l.head?≠some 40 then rdP l else if l.getLast?≠some 41 then none else
  if 1 < (so 38 (jJ l) 0 []).length then (dX (rdW d) (so 38 (jJ l) 0 [])).map (grD 38)
  else if 1 < (so 124 (jJ l) 0 []).length then (dX (rdW d) (so 124 (jJ l) 0 [])).map (grD 124) else none
def lwG (f:List Nat->Option Dm) (r:Option (List (List Nat)) × List Nat):Option Dm:=match r.1 with
 | none=>none
 | some ps=>if ¬ (2<=ps.length/\ps.length<=6) then none else match dX f ps with
  | none=>none
  | some ds=>if r.2≠Rq r.2.length (r.2.headD 0) then none else some (grD (r.2.headD 0) ds)
def lwR:Nat->List Nat->Option Dm
 | 0,l=>if l.head?≠some 40 then lwP l else none
 | d+1,l=>if l.head?≠some 40 then lwP l else if l.getLast?≠some 41 then none else if d=0 then none else lwG (lwR d) (pcA (jJ l) 0 [] [] [])
theorem zB {l:List Nat} (h1:l.head? = some 40) (h2:l.getLast? = some 41):l=40::(jJ l++[41]):=by
 cases l with
 | nil=>cases h1
 | cons x r =>
  cases (show some x=some 40 from h1)
  unfold jJ
  rw[YM,V8]
  cases r with
  | nil=>cases h2
  | cons y t =>
   have e:(y::t).getLast? = some 41:=by rw[← h2]; rfl
   obtain⟨ys,e⟩:=List.getLast?_eq_some_iff.mp e
   rw[e,YC]
theorem Ni {l:List Nat} {x:Dm} (h:rdP l=some x):clB 0 l=true:=by
 unfold rdP at h
 by_cases hf:l=qt
 ·rw[hf]; rfl
 rw[if_neg hf] at h
 by_cases hn:l=jE
 ·rw[hn]; rfl
 rw[if_neg hn] at h
 have fg:∀ {x:Nat},x∈rF->x≠40/\x≠41/\x≠38/\x≠124:=fun {x} hx=>⟨fun z=>by rw[z] at hx; exact absurd hx (by decide),fun z=>by rw[z] at hx; exact absurd hx (by decide),fun z=>by rw[z] at hx; exact absurd hx (by decide),fun z=>by rw[z] at hx; exact absurd hx (by decide)⟩
 have fp:∀ {x:Nat},x∈rF∨x=43->x≠40/\x≠41/\x≠38/\x≠124:=fun {x} hx=>hx.elim fg fun z=>by rw[z]; decide
 unfold rpH at h
 cases e58:rpL 58 l with
 | none =>
  rw[e58] at h
  cases (show (none:Option Dm)=some x from h)
 | some ab =>
  obtain⟨a,b⟩:=ab
  obtain⟨el,hb⟩:=d7 e58
  rw[e58] at h
  simp only[XQ] at h
  refine zc fun y hy=>?_
  rw[el] at hy
  cases e42:rpL 42 a with
  | none =>
   rw[e42] at h
   dsimp only at h
   split at h
   ·cases ec:rdC a with
    | none=>rw[ec] at h; cases h
    | some c =>
     rw[ec] at h
     cases ek:cZ b with
     | none=>rw[ek] at h; cases h
     | some k =>
      rcases List.mem_append.mp hy with z | z
      ·exact fp (o9 ec y z)
      ·rcases List.mem_cons.mp z with z | z
       ·rw[z]; decide
       ·exact fg (iC ek y z)
   ·cases ec:cZ a with
    | none=>rw[ec] at h; cases h
    | some c =>
     rw[ec] at h
     cases ek:cZ b with
     | none=>rw[ek] at h; cases h
     | some k =>
      rcases List.mem_append.mp hy with z | z
      ·exact fg (iC ec y z)
      ·rcases List.mem_cons.mp z with z | z
       ·rw[z]; decide
       ·exact fg (iC ek y z)
  | some mc =>
   obtain⟨m,cr⟩:=mc
   obtain⟨ea,hc⟩:=d7 e42
   rw[e42] at h
   dsimp only at h
   cases ec:rdC cr with
   | none=>rw[ec] at h; cases h
   | some c =>
    rw[ec] at h
    cases ek:cZ b with
    | none=>rw[ek] at h; cases h
    | some k =>
     rw[ek] at h
     cases em:cZ m with
     | none=>rw[em] at h; cases h
     | some mm =>
      rcases List.mem_append.mp hy with z | z
      ·rw[ea] at z
       rcases List.mem_append.mp z with z | z
       ·exact fg (iC em y z)
       ·rcases List.mem_cons.mp z with z | z
        ·rw[z]; decide
        ·exact fp (o9 ec y z)
      ·rcases List.mem_cons.mp z with z | z
       ·rw[z]; decide
       ·exact fg (iC ek y z)
theorem t8 (s:Nat):∀ (l:List Nat) (d:Int) (cur:List Nat),jn s (so s l d cur)=cur++l/\so s l d cur≠[]
 | [],d,cur=>by rw[so,Ss]; exact⟨rfl,by simp⟩
 | x::r,d,cur=>by
  rw[so]
  have e:cur++[x]++r=cur++x::r:=by rw[RG]; rfl
  split
  ·have:=t8 s r (d+1) (cur++[x]); rwa [e] at this
  ·split
   ·have:=t8 s r (d - 1) (cur++[x]); rwa [e] at this
   ·split
    ·rename_i h
     have:=t8 s r d []
     refine⟨?_,by simp⟩
     rw[DN this.2,this.1,h.1]; rfl
    ·have:=t8 s r d (cur++[x]); rwa [e] at this
theorem Bq:∀ (d:Nat) {l:List Nat} {x:Dm},rdW d l=some x->clB 0 l=true
 | 0,_,_,h=>by rw[rdW] at h; cases h
 | d+1,l,x,h=>by
  rw[rdW] at h
  split at h
  ·exact Ni h
  ·rename_i h1
   split at h
   ·cases h
   ·rename_i h2
    have el:=zB (Classical.not_not.mp h1) (Classical.not_not.mp h2)
    have go:∀ s,s≠40->s≠41->(∃ ds,dX (rdW d) (so s (jJ l) 0 [])=some ds)->clB 0 l=true:=fun s s1 s2 ⟨ds,e⟩=>by
     have:=(t8 s (jJ l) 0 []).1
     rw[TF] at this
     rw[el,← this]
     exact O3 s1 s2 fun p hp=>by
      obtain⟨y,_,ey⟩:=jN e p hp
      exact Bq d ey
    split at h
    ·obtain⟨ds,e,_⟩:=Option.map_eq_some_iff.mp h
     exact go 38 (by decide) (by decide) ⟨ds,e⟩
    ·split at h
     ·obtain⟨ds,e,_⟩:=Option.map_eq_some_iff.mp h
      exact go 124 (by decide) (by decide) ⟨ds,e⟩
     ·cases h
theorem Lk {s:Nat} (hs:s=38∨s=124) (n:Nat) (ds:List Dm):isT 12 (n+1) (grD s ds)=true ↔ (2<=ds.length/\ds.length<=6)/\∀ d∈ds,isT 12 n d=true:=by
 have key:isT 12 (n+1) (grD s ds)=(isNum (.int (ds.length:Int)) 2 6 && ds.all (isT 12 n)):=by
  rcases hs with rfl | rfl
  ·show isT 12 (n+1) (.tup [.str "all",.tup ds])=_
   rw[isT,if_neg (vH),if_neg (by show ¬ (eqD (.str "all") (.str "free") || eqD (.str "all") (.str "never"))=true; decide+kernel),if_neg (by show ¬ eqD (.str "all") (.str "gives")=true; decide+kernel),if_neg (by show ¬ eqD (.str "all") (.str "sum")=true; decide+kernel),if_neg (by show ¬ eqD (.str "all") (.str "crowd")=true; decide+kernel),if_pos (by show (eqD (.str "all") (.str "all") || eqD (.str "all") (.str "any"))=true; decide+kernel)]
   rfl
  ·show isT 12 (n+1) (.tup [.str "any",.tup ds])=_
   rw[isT,if_neg (vH),if_neg (by show ¬ (eqD (.str "any") (.str "free") || eqD (.str "any") (.str "never"))=true; decide+kernel),if_neg (by show ¬ eqD (.str "any") (.str "gives")=true; decide+kernel),if_neg (by show ¬ eqD (.str "any") (.str "sum")=true; decide+kernel),if_neg (by show ¬ eqD (.str "any") (.str "crowd")=true; decide+kernel),if_pos (by show (eqD (.str "any") (.str "all") || eqD (.str "any") (.str "any"))=true; decide+kernel)]
   rfl
 rw[key,Rp,List.all_eq_true]
 unfold isNum
 rw[Rp,decide_eq_true_eq,decide_eq_true_eq]
 constructor
 ·rintro⟨h1,h2⟩; exact⟨by lia,h2⟩
 ·rintro⟨h1,h2⟩; exact⟨by lia,h2⟩
theorem kj {α β:Type} {f g:α->Option β} {p:β->Bool}:∀ {l:List α},(∀ x∈l,g x=(f x).filter p)->(match dX f l with
  | some ds=>dX g l=if ∀ d∈ds,p d=true then some ds else none
  | none=>dX g l=none)
 | [],_=>by
  show dX g []=_
  rw[if_pos (fun d hd=>by cases hd)]; rfl
 | x::r,h=>by
  have h1:=h x Rc
  have ih:=kj (l:=r) fun y hy=>h y (Ri _ hy)
  rw[dX,dX,h1]
  cases ef:f x with
  | none=>rfl
  | some a =>
   rw[Vg]
   cases er:dX f r with
   | none =>
    rw[er] at ih
    dsimp only at ih ⊢
    rw[ih]
    split <;> rfl
   | some b =>
    rw[er] at ih
    dsimp only at ih ⊢
    rw[ih]
    by_cases ha:p a=true
    ·rw[if_pos ha]
     by_cases hb:∀ d∈b,p d=true
     ·rw[if_pos hb,if_pos (fun d hd=>by
       rcases List.mem_cons.mp hd with rfl | hd
       ·exact ha
       ·exact hb d hd)]
     ·rw[if_neg hb,if_neg (fun z=>hb fun d hd=>z d (Ri _ hd))]
    ·rw[if_neg ha,if_neg (c:=∀ d∈a::b,p d=true) (fun z=>ha (z a Rc))]
theorem jL:∀ (d:Nat) (l:List Nat),1<=d->lwR d l=(rdW d l).filter (isT 12 d)
 | 0,_,h=>absurd h (by decide)
 | d+1,l,_=>by
  rw[lwR,rdW]
  by_cases h1:l.head? = some 40
  ·have g1:¬ (l.head?≠some 40):=fun z=>z h1
   rw[if_neg g1,if_neg g1]
   by_cases h2:l.getLast? = some 41
   ·have g2:¬ (l.getLast?≠some 41):=fun z=>z h2
    rw[if_neg g2,if_neg g2]
    have el:=zB h1 h2
    generalize jJ l=q at el ⊢
    have J38:=t8 38 q 0 []
    have J124:=t8 124 q 0 []
    rw[TF] at J38 J124
    cases d with
    | zero =>
     rw[if_pos rfl]
     have no:∀ ps:List (List Nat),1 < ps.length->dX (rdW 0) ps=none:=fun ps hp=>by
      cases ps with
      | nil=>cases hp
      | cons p r=>rw[dX,rdW]
     split
     ·rename_i z; rw[no _ z]; rfl
     ·split
      ·rename_i z; rw[no _ z]; rfl
      ·rfl
    | succ d =>
     rw[if_neg (Nat.succ_ne_zero d)]
     have ih:∀ x,lwR (d+1) x=(rdW (d+1) x).filter (isT 12 (d+1)):=fun x=>jL (d+1) x (Wo 1 d)
     have go:∀ s (ps:List (List Nat)),(s=38∨s=124)->1 < ps.length->jn s ps=q->(∀ p∈ps,clB 0 p=true)->lwG (lwR (d+1)) (pcA q 0 [] [] [])=((dX (rdW (d+1)) ps).map (grD s)).filter (isT 12 (d+1+1)):=fun s ps hs hl hj hc=>by
      obtain⟨p,r,rfl⟩:∃ p r,ps=p::r:=by cases ps with | nil=>cases hl | cons p r=>exact⟨p,r,rfl⟩
      have e:=Hv hs hc [] [] []
      rw[hj,TF,TF,TF] at e
      rw[e]
      have r1:1<=r.length:=by rw[Rg] at hl; lia
      have er:(Rq r.length s).headD 0=s:=by
       cases r with
       | nil=>simp at r1
       | cons _ _=>rfl
      unfold lwG
      dsimp only
      rw[UJ,er]
      have sf:=kj (l:=p::r) (f:=rdW (d+1)) (g:=lwR (d+1)) (p:=isT 12 (d+1)) fun x _=>ih x
      cases es:dX (rdW (d+1)) (p::r) with
      | none =>
       rw[es] at sf
       dsimp only at sf
       rw[sf]
       split <;> rfl
      | some ds =>
       rw[es] at sf
       dsimp only at sf
       rw[sf]
       have el:=cg es
       show _=(some (grD s ds)).filter _
       rw[tR (Lk hs (d+1) ds),el]
       by_cases h26:2<=(p::r).length/\(p::r).length<=6
       ·rw[if_neg (fun z=>z h26)]
        by_cases ha:∀ d'∈ds,isT 12 (d+1) d'=true
        ·rw[if_pos ha,if_pos ⟨h26,ha⟩]
         dsimp only
         rw[if_neg (fun z=>z rfl)]
        ·rw[if_neg ha,if_neg (fun z=>ha z.2)]
       ·rw[if_pos h26,if_neg (fun z=>h26 z.1)]
     have back:∀ y,lwG (lwR (d+1)) (pcA q 0 [] [] [])=some y->∃ s ps,(s=38∨s=124)/\1 < ps.length/\jn s ps=q/\(∀ p∈ps,clB 0 p=true):=fun y hy=>by
      cases ep:pcA q 0 [] [] [] with
      | mk r1 gs =>
       cases r1 with
       | none=>rw[ep] at hy; cases hy
       | some qs =>
        obtain⟨p,rest,hs,e1,e2,e3,e4,e5,e6⟩:=rY q 0 [] [] [] qs gs (fun t=>rfl) ep
        rw[TF] at e1 e2 e5
        subst e1 e2
        rw[ep] at hy
        unfold lwG at hy
        dsimp only at hy
        split at hy
        ·cases hy
        ·rename_i h26
         split at hy
         ·cases hy
         ·split at hy
          ·cases hy
          ·rename_i hr
           have hr:=Classical.not_not.mp hr
           have h26:=(Classical.not_not.mp h26).1
           rw[Rg] at h26
           cases gs with
           | nil=>rw[← e3] at h26; simp at h26
           | cons g gs =>
            refine⟨g,p::rest,e6 g Rc,by rw[Rg]; lia,?_,e4⟩
            rw[e5,hr]
            have:=Il g (p::rest)
            rw[Rg,Wt,← e3] at this
            exact this.symm
     by_cases z38:1 < (so 38 q 0 []).length
     ·rw[if_pos z38]
      cases es:dX (rdW (d+1)) (so 38 q 0 []) with
      | some ds =>
       rw[← es]
       exact go 38 _ (.inl rfl) z38 J38.1 fun p hp=>by
        obtain⟨y,_,ey⟩:=jN es p hp
        exact Bq _ ey
      | none =>
       cases ey:lwG (lwR (d+1)) (pcA q 0 [] [] []) with
       | none=>rfl
       | some y =>
        obtain⟨s,ps,hs,hl,hj,hc⟩:=back y ey
        have ne:ps≠[]:=fun z=>by rw[z] at hl; cases hl
        rcases hs with rfl | rfl
        ·have:=CT (.inl rfl) ne hc
         rw[hj] at this
         rw[← ey,go 38 ps (.inl rfl) hl hj hc,← this,es]
        ·have:=yC (s:=38) (e:=124) (.inl rfl) (.inr rfl) (by decide) ne hc []
         rw[hj] at this
         rw[this] at z38
         simp at z38
     ·rw[if_neg z38]
      by_cases z124:1 < (so 124 q 0 []).length
      ·rw[if_pos z124]
       cases es:dX (rdW (d+1)) (so 124 q 0 []) with
       | some ds =>
        rw[← es]
        exact go 124 _ (.inr rfl) z124 J124.1 fun p hp=>by
         obtain⟨y,_,ey⟩:=jN es p hp
         exact Bq _ ey
       | none =>
        cases ey:lwG (lwR (d+1)) (pcA q 0 [] [] []) with
        | none=>rfl
        | some y =>
         obtain⟨s,ps,hs,hl,hj,hc⟩:=back y ey
         have ne:ps≠[]:=fun z=>by rw[z] at hl; cases hl
         rcases hs with rfl | rfl
         ·have:=CT (.inl rfl) ne hc
          rw[hj] at this
          rw[this] at z38
          exact absurd hl z38
         ·have:=CT (.inr rfl) ne hc
          rw[hj] at this
          rw[← ey,go 124 ps (.inr rfl) hl hj hc,← this,es]
      ·rw[if_neg z124]
       cases ey:lwG (lwR (d+1)) (pcA q 0 [] [] []) with
       | none=>rfl
       | some y =>
        obtain⟨s,ps,hs,hl,hj,hc⟩:=back y ey
        have ne:ps≠[]:=fun z=>by rw[z] at hl; cases hl
        rcases hs with rfl | rfl
        ·have:=CT (.inl rfl) ne hc
         rw[hj] at this
         rw[this] at z38
         exact absurd hl z38
        ·have:=CT (.inr rfl) ne hc
         rw[hj] at this
         rw[this] at z124
         exact absurd hl z124
   ·rw[if_pos h2,if_pos h2]; rfl
  ·rw[if_pos h1,if_pos h1]
   exact wM d l
def rgD (r:Nat × Dm):Dm:=.tup [dI r.1,r.2]
def ptL (c:Nat):List Nat->Option (List Nat × List Nat)
 | []=>none
 | x::r=>if x=c then some ([],r) else match ptL c r with
  | some (a,b)=>some (x::a,b)
  | none=>none
theorem uy {c:Nat}:∀ {l:List Nat},ptL c l=none->c ∉ l
 | [],_=>by simp
 | x::r,e=>by
  rw[ptL] at e
  split at e
  ·cases e
  ·rename_i hx
   split at e
   ·cases e
   ·rename_i e2
    intro z
    rcases List.mem_cons.mp z with z | z
    ·exact hx z.symm
    ·exact uy e2 z
theorem tO {c:Nat}:∀ {l a b:List Nat},ptL c l=some (a,b)->l=a++c::b/\c ∉ a
 | [],_,_,e=>by cases e
 | x::r,a,b,e=>by
  rw[ptL] at e
  split at e
  ·rename_i hx
   cases e
   exact⟨by rw[hx]; rfl,by simp⟩
  ·rename_i hx
   split at e
   ·rename_i a' b' e2
    obtain⟨h1,h2⟩:=tO e2
    cases e
    refine⟨by rw[h1]; rfl,fun z=>?_⟩
    rcases List.mem_cons.mp z with z | z
    ·exact hx z.symm
    ·exact h2 z
   ·cases e
def ptH (c:Nat) (l:List Nat):List Nat × List Nat:=(ptL c l).getD (l,[])
def rdT (l:List Nat):Option Dm:=(rdW 4 l).filter (isT 12 4)
def rdR (l:List Nat):Option (Nat × Dm):=(cZ (ptH 63 l).1).bind fun n=>(rdT (ptH 63 l).2).map fun d=>(n,d)
def ym:Nat->List (Nat × Dm)->Bool
 | _,[]=>true
 | lo,r::rs=>decide (lo<=r.1/\r.1<=9) && ym (r.1+1) rs
def plD (rs:List (Nat × Dm)):Dm:=.tup (rs.map rgD)
def Hj (l:List Nat):Option Dm:=(dX rdR (spl 44 l)).bind fun rs=>if rs.length<=9/\ym 1 rs=true then some (plD rs) else none
def Bx (l:List Nat):Option (Nat × Dm):=if (spl 63 l).length≠2 then none else (cZ ((spl 63 l).headD [])).bind fun n=>(lwR 4 ((spl 63 l).getLastD [])).bind fun d=>if 1<=n/\n<=9 then some (n,d) else none
def Ce (l:List Nat):Option Dm:=(dX Bx (spl 44 l)).bind fun rs=>if rs.length < 10/\(rs.map V7).Pairwise (· < ·) then some (plD rs) else none
theorem Mv {l:List Nat} {x:Dm} (h:rdP l=some x):63 ∉ l:=by
 unfold rdP at h
 by_cases hf:l=qt
 ·rw[hf]; decide
 rw[if_neg hf] at h
 by_cases hn:l=jE
 ·rw[hn]; decide
 rw[if_neg hn] at h
 unfold rpH at h
 cases e58:rpL 58 l with
 | none =>
  rw[e58] at h
  cases (show (none:Option Dm)=some x from h)
 | some ab =>
  obtain⟨a,b⟩:=ab
  obtain⟨el,hb⟩:=d7 e58
  rw[e58] at h
  simp only[XQ] at h
  intro hy
  have nf:∀ {c:List Nat} {n:Nat},cZ c=some n->63 ∉ c:=fun e z=>absurd (iC e 63 z) (by decide)
  have nc:∀ {c d:List Nat},rdC c=some d->63 ∉ c:=fun e z=>(o9 e 63 z).elim (by decide) (by decide)
  rw[el] at hy
  cases e42:rpL 42 a with
  | none =>
   rw[e42] at h
   dsimp only at h
   split at h
   ·cases ec:rdC a with
    | none=>rw[ec] at h; cases h
    | some c =>
     rw[ec] at h
     cases ek:cZ b with
     | none=>rw[ek] at h; cases h
     | some k =>
      rcases List.mem_append.mp hy with z | z
      ·exact nc ec z
      ·rcases List.mem_cons.mp z with z | z
       ·cases z
       ·exact nf ek z
   ·cases ec:cZ a with
    | none=>rw[ec] at h; cases h
    | some c =>
     rw[ec] at h
     cases ek:cZ b with
     | none=>rw[ek] at h; cases h
     | some k =>
      rcases List.mem_append.mp hy with z | z
      ·exact nf ec z
      ·rcases List.mem_cons.mp z with z | z
       ·cases z
       ·exact nf ek z
  | some mc =>
   obtain⟨m,cr⟩:=mc
   obtain⟨ea,hc⟩:=d7 e42
   rw[e42] at h
   dsimp only at h
   cases ec:rdC cr with
   | none=>rw[ec] at h; cases h
   | some c =>
    rw[ec] at h
    cases ek:cZ b with
    | none=>rw[ek] at h; cases h
    | some k =>
     rw[ek] at h
     cases em:cZ m with
     | none=>rw[em] at h; cases h
     | some mm =>
      rcases List.mem_append.mp hy with z | z
      ·rw[ea] at z
       rcases List.mem_append.mp z with z | z
       ·exact nf em z
       ·rcases List.mem_cons.mp z with z | z
        ·cases z
        ·exact nc ec z
      ·rcases List.mem_cons.mp z with z | z
       ·cases z
       ·exact nf ek z
theorem HD {c x:Nat}:∀ {ps:List (List Nat)},x∈jn c ps->x=c∨∃ p∈ps,x∈p
 | [],h=>by cases h
 | [p],h=>.inr ⟨p,Rc,h⟩
 | p::q::r,h=>by
  rw[jn2] at h
  rcases List.mem_append.mp h with z | z
  ·exact .inr ⟨p,Rc,z⟩
  ·rcases List.mem_cons.mp z with z | z
   ·exact .inl z
   ·rcases HD z with z | ⟨y,h1,h2⟩
    ·exact .inl z
    ·exact .inr ⟨y,Ri _ h1,h2⟩
theorem HN:∀ (d:Nat) {l:List Nat} {x:Dm},rdW d l=some x->63 ∉ l
 | 0,_,_,h=>by rw[rdW] at h; cases h
 | d+1,l,x,h=>by
  rw[rdW] at h
  split at h
  ·exact Mv h
  ·rename_i h1
   split at h
   ·cases h
   ·rename_i h2
    have el:=zB (Classical.not_not.mp h1) (Classical.not_not.mp h2)
    have go:∀ s,s≠63->(∃ ds,dX (rdW d) (so s (jJ l) 0 [])=some ds)->63 ∉ l:=fun s s1 ⟨ds,e⟩ hm=>by
     have:=(t8 s (jJ l) 0 []).1
     rw[TF] at this
     rw[el,← this] at hm
     rcases List.mem_cons.mp hm with z | z
     ·cases z
     ·rcases List.mem_append.mp z with z | z
      ·rcases HD z with z | ⟨p,hp,z⟩
       ·exact s1 z.symm
       ·obtain⟨y,_,ey⟩:=jN e p hp
        exact HN d ey z
      ·cases List.mem_singleton.mp z
    split at h
    ·obtain⟨ds,e,_⟩:=Option.map_eq_some_iff.mp h
     exact go 38 (by decide) ⟨ds,e⟩
    ·split at h
     ·obtain⟨ds,e,_⟩:=Option.map_eq_some_iff.mp h
      exact go 124 (by decide) ⟨ds,e⟩
     ·cases h
theorem Cw {c:Nat} {b:List Nat}:∀ {a:List Nat},c ∉ a->spl c (a++c::b)=a::spl c b
 | [],_=>by
  show (if c=c then []::spl c b else _)=_
  rw[if_pos rfl]
 | x::a,h=>by
  rw[Tg,spl,if_neg (fun z=>h (by rw[z]; exact Rc)),Cw (fun z=>h (Ri _ z))]
theorem zM (l:List Nat):Bx l=(rdR l).filter fun r=>decide (1<=r.1/\r.1<=9):=by
 unfold Bx rdR ptH
 cases e:ptL 63 l with
 | none =>
  rw[mC (uy e),if_pos (by simp)]
  show none=((cZ l).bind fun n=>(rdT []).map fun d=>(n,d)).filter _
  cases cZ l <;> rfl
 | some ab =>
  obtain⟨a,b⟩:=ab
  obtain⟨el,ha⟩:=tO e
  rw[show spl 63 l=a::spl 63 b by rw[el,Cw ha]]
  simp only[XQ]
  by_cases hb:63∈b
  ·rw[if_pos (fun z=>tH (by rw[Rg] at z; lia) hb)]
   have:rdT b=none:=by
    unfold rdT
    cases ew:rdW 4 b with
    | none=>rfl
    | some x=>exact absurd hb (HN 4 ew)
   rw[this]
   cases cZ a <;> rfl
  ·rw[mC hb,if_neg (by simp)]
   show ((cZ a).bind fun n=>(lwR 4 b).bind fun d=>if 1<=n/\n<=9 then some (n,d) else none)=_
   rw[jL 4 b (by decide)]
   show ((cZ a).bind fun n=>(rdT b).bind fun d=>if 1<=n/\n<=9 then some (n,d) else none)=_
   cases cZ a with
   | none=>rfl
   | some n =>
    cases rdT b with
    | none=>rfl
    | some d =>
     show (if 1<=n/\n<=9 then some (n,d) else none)=(some (n,d)).filter _
     rw[Vg]
     by_cases z:1<=n/\n<=9
     ·rw[if_pos z,if_pos (decide_eq_true z)]
     ·rw[if_neg z,if_neg (fun y=>z (of_decide_eq_true y))]
theorem uB:∀ (rs:List (Nat × Dm)) (lo:Nat),ym lo rs=true ↔ (∀ r∈rs,lo<=r.1/\r.1<=9)/\(rs.map V7).Pairwise (· < ·)
 | [],lo=>by simp [ym]
 | r::rs,lo=>by
  rw[ym,Rp,decide_eq_true_eq,uB rs,Tv,Ul]
  constructor
  ·rintro⟨⟨a,b⟩,c,d⟩
   refine⟨fun m hm=>?_,fun m hm=>?_,d⟩
   ·rcases List.mem_cons.mp hm with rfl | hm
    ·exact⟨a,b⟩
    ·have:=c m hm
     lia
   ·obtain⟨q,hq,rfl⟩:=List.mem_map.mp hm
    have:=c q hq
    lia
  ·rintro⟨a,b,c⟩
   refine⟨a r Rc,fun m hm=>⟨?_,(a m (Ri _ hm)).2⟩,c⟩
   have:=b m.1 (YL hm)
   lia
theorem vd (l:List Nat):Ce l=Hj l:=by
 unfold Ce Hj
 have sf:=kj (l:=spl 44 l) (f:=rdR) (g:=Bx) fun x _=>zM x
 cases e:dX rdR (spl 44 l) with
 | none =>
  rw[e] at sf
  dsimp only at sf
  rw[sf]; rfl
 | some rs =>
  rw[e] at sf
  dsimp only at sf
  rw[sf]
  show _=(if rs.length<=9/\ym 1 rs=true then some (plD rs) else none)
  by_cases ha:∀ r∈rs,decide (1<=r.1/\r.1<=9)=true
  ·rw[if_pos ha]
   show (if rs.length < 10/\(rs.map V7).Pairwise (· < ·) then some (plD rs) else none)=_
   have ep:ym 1 rs=true ↔ (rs.map V7).Pairwise (· < ·):=by
    rw[uB]
    exact⟨fun z=>z.2,fun z=>⟨fun r hr=>of_decide_eq_true (ha r hr),z⟩⟩
   by_cases z:rs.length < 10/\(rs.map V7).Pairwise (· < ·)
   ·rw[if_pos z,if_pos ⟨by lia,ep.mpr z.2⟩]
   ·rw[if_neg z,if_neg (fun y=>z ⟨by lia,ep.mp y.2⟩)]
  ·rw[if_neg ha,if_neg (fun z=>ha fun r hr=>decide_eq_true (((uB rs 1).mp z.2).1 r hr))]
   rfl
def PR (k:Nat) (l:List Nat):Prop:=∀ a s b:List Nat,l=a++(s++b)->(∀ x∈s,x∈rF∨x=43)->s.count 43<=k
theorem PR.inf {k:Nat} {a m b:List Nat} (h:PR k (a++(m++b))):PR k m:=fun p s q e hs=>h (a++p) s (q++b) (by rw[e]; simp) hs
theorem PR.mono {j k:Nat} {l:List Nat} (h:PR j l) (hk:j<=k):PR k l:=fun a s b e hs=>RP (h a s b e hs) hk
theorem PR.few {k:Nat} {l:List Nat} (h:l.count 43<=k):PR k l:=fun a s b e _=>by
 rw[e,Xv,Xv] at h
 lia
theorem PR.app {j k:Nat} {a b:List Nat} (ha:PR j a) (hb:PR k b):PR (j+k) (a++b):=fun p s q e hs=>by
 rcases List.append_eq_append_iff.mp e with⟨t,e1,e2⟩ | ⟨t,e1,e2⟩
 ·have:=hb t s q e2 hs
  lia
 ·rcases List.append_eq_append_iff.mp e2 with⟨u,e3,e4⟩ | ⟨u,e3,e4⟩
  ·have:=ha p s u (by rw[e1,e3]) hs
   lia
  ·have h1:=ha p t [] (by rw[e1,Ss]) fun x hx=>hs x (by rw[e3]; exact Vp _ hx)
   have h2:=hb [] u q e4 fun x hx=>hs x (by rw[e3]; exact RC _ hx)
   rw[e3,Xv]
   lia
theorem PR.mid {k c:Nat} {a b:List Nat} (hc:¬ (c∈rF∨c=43)) (ha:PR k a) (hb:PR k b):PR k (a++c::b):=fun p s q e hs=>by
 rcases List.append_eq_append_iff.mp e with⟨t,e1,e2⟩ | ⟨t,e1,e2⟩
 ·cases t with
  | nil =>
   cases s with
   | nil=>simp
   | cons y s =>
    cases (TJ e2).1
    exact absurd (hs _ Rc) hc
  | cons y t =>
   obtain⟨_,e3⟩:=TJ e2
   exact hb t s q e3 hs
 ·rcases List.append_eq_append_iff.mp e2 with⟨u,e3,e4⟩ | ⟨u,e3,e4⟩
  ·exact ha p s u (by rw[e1,e3]) hs
  ·cases u with
   | nil =>
    rw[Ss] at e3
    exact ha p s [] (by rw[e1,e3,Ss]) hs
   | cons y u =>
    cases (TJ e4).1
    exact absurd (hs _ (by rw[e3]; exact RC _ Rc)) hc
theorem PR.take {k:Nat} {l:List Nat} (h:PR k l) (n:Nat):PR k (l.take n):=PR.inf (a:=[]) (b:=l.drop n) (by rw[TF,Ys]; exact h)
theorem PR.drop {k:Nat} {l:List Nat} (h:PR k l) (n:Nat):PR k (l.drop n):=PR.inf (a:=l.take n) (b:=[]) (by rw[Ss,Ys]; exact h)
theorem PR.jn {k c:Nat} (hc:¬ (c∈rF∨c=43)):∀ {ps:List (List Nat)},(∀ p∈ps,PR k p)->PR k (jn c ps)
 | [],_=>PR.few (by show 0<=k; lia)
 | [p],h=>h p Rc
 | p::q::r,h=>by
  rw[jn2]
  exact PR.mid hc (h p Rc) (PR.jn hc fun x hx=>h x (Ri _ hx))
theorem tY:∀ {ps:List (List Nat)},(∀ p∈ps,43 ∉ p)->(jn 43 ps).count 43=ps.length - 1
 | [],_=>rfl
 | [p],h=>by
  show p.count 43=0
  exact List.count_eq_zero.mpr (h p Rc)
 | p::q::r,h=>by
  rw[jn2,Xv,List.count_cons_self,List.count_eq_zero.mpr (h p Rc),tY fun x hx=>h x (Ri _ hx)]
  simp
theorem Dg (l:List Nat):(spl 43 l).length=l.count 43+1:=by
 have h1:=tY (oY 43 l)
 rw[vB] at h1
 have:(spl 43 l).length≠0:=fun z=>fG 43 l (List.length_eq_zero_iff.mp z)
 lia
def Inf (p l:List Nat):Prop:=∃ a b,l=a++(p++b)
theorem Inf.pr {k:Nat} {p l:List Nat} (h:Inf p l) (hl:PR k l):PR k p:=by
 obtain⟨a,b,rfl⟩:=h
 exact hl.inf
theorem Inf.len {p l:List Nat} (h:Inf p l):p.length<=l.length:=by
 obtain⟨a,b,rfl⟩:=h
 simp only[Rf]
 lia
theorem Inf.mem {p l:List Nat} (h:Inf p l) {x:Nat} (hx:x∈p):x∈l:=by
 obtain⟨a,b,rfl⟩:=h
 exact RC _ (Vp _ hx)
theorem Inf.refl (l:List Nat):Inf l l:=⟨[],[],by simp⟩
theorem Inf.trans {p q l:List Nat} (h:Inf p q) (h2:Inf q l):Inf p l:=by
 obtain⟨a,b,rfl⟩:=h
 obtain⟨c,d,rfl⟩:=h2
 exact⟨c++a,b++d,by simp⟩
theorem Ez {c:Nat}:∀ {ps:List (List Nat)} {p:List Nat},p∈ps->Inf p (jn c ps)
 | [q],p,h=>by rw[List.mem_singleton.mp h]; exact Inf.refl q
 | q::r::t,p,h=>by
  rw[jn2]
  rcases List.mem_cons.mp h with rfl | h
  ·exact⟨[],c::jn c (r::t),rfl⟩
  ·obtain⟨a,b,e⟩:=Ez (c:=c) h
   exact⟨q++c::a,b,by rw[e]; simp⟩
theorem gm {c:Nat} {l p:List Nat} (h:p∈spl c l):Inf p l:=by
 have:=Ez (c:=c) h
 rwa [vB] at this
theorem pZ (l:List Nat):Inf (jJ l) l:=by
 unfold jJ
 cases l with
 | nil=>exact Inf.refl []
 | cons x r =>
  rw[YM,V8]
  rcases Vi r with rfl | ⟨s,y,rfl⟩
  ·exact⟨[x],[],rfl⟩
  ·rw[Vj,YC]
   exact⟨[x],[y],rfl⟩
theorem DX:∀ {ps:List (List Nat)} {gs:List Nat} {p:List Nat},gs.length+1=ps.length->p∈ps->Inf p (jnM ps gs)
 | [q],[],p,_,h=>by rw[List.mem_singleton.mp h]; exact Inf.refl q
 | q::r::t,g::gs,p,e,h=>by
  rw[jnM]
  rcases List.mem_cons.mp h with rfl | h
  ·exact⟨[],g::jnM (r::t) gs,rfl⟩
  ·obtain⟨a,b,e⟩:=DX (gs:=gs) (by simpa using e) h
   exact⟨q++g::a,b,by rw[e]; simp⟩
abbrev j6:Stmt:=top 6
theorem vK:aV ["thing","low","high"] ["thing","low","high"] (aB j6):=⟨rfl,rfl,rfl,by decide+kernel,rfl,by decide+kernel,by decide+kernel⟩
def kZ:Sp:=fun vs H Q _=>∃ (x:V) (d:Dm) (lo hi:Int),vs=[x,.int lo,.int hi]/\Rep H x d/\pd d=true/\Q (.bl (isNum d lo hi)) H
theorem uY (F : Fun K "is_number" "is_number" j6 f fd) (B : Bt mg) :
    dB P w K mg base CX0 1 f fd ["thing", "low", "high"] kZ := by
  refine F.ok vK (fun vs H Q E h => ?_) (fun cdv A outer s H vs Q E hr h => ?_)
  · obtain ⟨x, d, lo, hi, rfl, _⟩ := h
    rfl
  · obtain ⟨x, d, lo, hi, rfl, rx, hp, q⟩ := h
    refine ⟨_, (aA (aJ (eV (aG (r := uP K) cz rfl B.isinstance_ aW (aa (pv 0) (aa (jB B.int_ jR) ao))) (eV (LC (aG (r := uP K) cz rfl B.isinstance_ aW (aa (pv 0) (aa (jB B.bool_ xH) ao)))) (eV (cR mF (pv 1) (pv 0) (aK _)) (jW (cR mF (pv 0) (pv 2) (aK _)))))))), ?_⟩
    cases rx with
    | int i =>
      refine ⟨_, rfl, _, _, _, _, rfl, .int i, jO _ _, _, rfl, bR ?_⟩
      refine ⟨_, rfl, _, _, _, _, rfl, .int i, j0 _, _, rfl, _, rfl, bR ?_⟩
      refine ⟨_, rfl, _, rfl, _, _, rfl, rfl, _, rfl, ?_⟩
      unfold isNum at q
      dsimp only at q
      refine jG (fun c => ?_) (fun c => ?_)
      · rw [c, Tq] at q
        exact ⟨_, rfl, _, rfl, _, _, rfl, rfl, q⟩
      · rw [Bool.eq_false_iff.mpr c, TY] at q
        exact q
    | str z => exact ⟨_, rfl, _, _, _, _, rfl, .str z, zU _, _, rfl, dF q⟩
    | tup h l r => exact ⟨_, rfl, _, _, _, _, rfl, .tup h, nR _, _, rfl, dF q⟩
    | non => rw [pd] at hp; · cases hp
             all_goals simp
    | bl b => rw [pd] at hp; · cases hp
              all_goals simp
    | lst h l r => rw [pd] at hp; · cases hp
                   all_goals simp
abbrev nJ:Stmt:=top 12
theorem iU:aV ["many","thing","fewest","lowest_left","one"] ["many","thing","fewest"] (aB nJ):=⟨rfl,rfl,rfl,by decide+kernel,rfl,by decide+kernel,by decide+kernel⟩
def Ik:Sp:=fun vs H Q _=>∃ (x:V) (d:Dm) (many few:Int),vs=[.int many,x,.int few]/\Rep H x d/\pd d=true/\Q (.bl (Dq many d few)) H
theorem yg (F : Fun K "is_crowd" "is_crowd" nJ f fd) (B : Bt mg)
    (D_is_number : Df P w K mg base "is_number" 1 ["thing", "low", "high"] kZ) : dB P w K mg base CX0 2 f fd ["many", "thing", "fewest"] Ik := by
  refine F.ok iU (fun vs H Q E h => ?_) (fun cdv A outer s H vs Q E hr h => ?_)
  · obtain ⟨x, d, many, few, rfl, _⟩ := h
    rfl
  · obtain ⟨x, d, many, few, rfl, rx, hp, q⟩ := h
    refine ⟨_, (au (bu (PW.pt (dW (dH (dq (aG (r := uP K) cz rfl B.isinstance_ aW (aa (pv 1) (aa (jB B.tuple_ bJ) ao))))) (dY (aD uN (aG (r := nZ K) bf rfl B.len_ bW (aa (pv 1) ao)) (pv 2) (aK _))))) (aA (aJ lr)) aM)
 (au (aU (i := 3) iU.nd rfl (RJ rfl) aq)
 (au (gC TX rfl (iZ (pv 1)) (aN (i := 4) iU.nd rfl (RJ rfl)) (au (bu (dH (dq (bF D_is_number hr (aa (pv 4) (aa (pv 3) (aa (aL gQ (pv 0) aq) ao)))))) (aA (aJ lr)) aM)
 (aA (aU (i := 3) iU.nd rfl (RJ rfl) (aL bK (pv 4) aq)))))
 (aA (aJ lr))))), ?_⟩
    cases rx with
    | int i => exact ⟨_, rfl, _, _, _, _, rfl, .int i, jm _, _, rfl, bR (bR q)⟩
    | str z => exact ⟨_, rfl, _, _, _, _, rfl, .str z, jx _, _, rfl, bR (bR q)⟩
    | @tup a xs ds h l r =>
      have hp40 := (qT hp).1
      replace hp := (qT hp).2
      have el := r.length
      have lq : ((xs.length : Nat) : Int) = (ds.length : Int) := by rw [el]
      refine ⟨_, rfl, _, _, _, _, rfl, .tup h, jO _ _, _, rfl, dF ?_⟩
      refine ⟨_, rfl, a, _, rfl, .inr (SqT.of h), _, rfl, _, _, rfl, rfl, _, rfl, ?_⟩
      unfold Dq at q
      dsimp only at q
      refine jG (fun c => ?_) (fun c => ?_)
      · have c' : ((xs.length : Nat) : Int) < few := of_decide_eq_true c
        rw [decide_eq_false (by lia), TY] at q
        exact q
      · have c' : ¬ ((xs.length : Nat) : Int) < few := fun z => c (decide_eq_true z)
        rw [decide_eq_true (by lia), Tq] at q
        refine ⟨_, rfl, a, rfl, ⟨_, SqT.of h⟩, uh (K := K) (a := a) (xs := xs) (fun i σ H2 => H2 = H ∧ ∃ (lo : Int) (u : Option V), σ = [some (.int many), some (.ref a), some (.int few), some (.int lo), u] ∧ Az (many - 1) lo (ds.drop i) = Az (many - 1) 0 ds) ⟨rfl, 0, _, rfl, by rw [V8]⟩ (fun i σ H2 _ h2 => by rw [h2.1]; exact SqT.of h) ?_ ?_⟩
        · rintro i x σ H2 hx ⟨rfl, lo, u, rfl, er⟩
          have hi : i < ds.length := by
            have := (List.getElem?_eq_some_iff.mp hx).1
            lia
          obtain ⟨v, hv, rv⟩ := sV r hi
          rw [hx] at hv
          cases hv
          have pv := Jq hp hi
          have ed : ds.drop i = ds.getD i .non :: ds.drop (i + 1) := by rw [Wc hi, RZ, Rn hi]; rfl
          rw [ed, Az] at er
          refine ⟨_, rfl, _, rfl, _, rfl, _, _, rfl, rfl, x, ds.getD i .non, lo, many - 1, rfl, rv, pv, _, rfl, ?_⟩
          cases hn : isNum (ds.getD i .non) lo (many - 1) with
          | false =>
            rw [hn, TY] at er
            rw [← er] at q
            exact bR q
          | true =>
            rw [hn, Tq] at er
            generalize ds.getD i .non = d0 at *
            cases rv with
            | int z => exact dF ⟨_, rfl, _, _, rfl, rfl, rfl, z + 1, _, rfl, er⟩
            | str z => cases hn
            | tup _ _ _ => cases hn
            | non => cases hn
            | bl _ => cases hn
            | lst _ _ _ => cases hn
        · rintro σ H2 ⟨rfl, lo, u, rfl, er⟩
          rw [el, W9, Az] at er
          rw [← er] at q
          exact q
    | non => rw [pd] at hp; · cases hp
             all_goals simp
    | bl b => rw [pd] at hp; · cases hp
              all_goals simp
    | lst h l r => rw [pd] at hp; · cases hp
                   all_goals simp
abbrev kI:Stmt:=top 13
abbrev fu:Stmt:=top 14
abbrev ql:Stmt:=top 15
theorem wu:aV ["many","thing","deep"] ["many","thing","deep"] (aB kI):=⟨rfl,rfl,rfl,by decide+kernel,rfl,by decide+kernel,by decide+kernel⟩
theorem ie:aV ["many","thing","deep","kind"] ["many","thing","deep"] (aB fu):=⟨rfl,rfl,rfl,by decide+kernel,rfl,by decide+kernel,by decide+kernel⟩
theorem Ac:aV ["many","term"] ["many","term"] (aB ql):=⟨rfl,rfl,rfl,by decide+kernel,rfl,by decide+kernel,by decide+kernel⟩
def jF (n:Nat):Sp:=fun vs H Q _=>∃ (x:V) (d:Dm) (many:Int) (m:Nat),vs=[.int many,x,.int (m:Int)]/\m < n/\Rep H x d/\pd d=true/\∀ H',bc H H'->Q (.bl (isT many m d)) H'
def Du (n:Nat):Sp:=fun vs H Q _=>∃ (x:V) (d:Dm) (many:Int) (m:Nat),vs=[.int many,x,.int (m:Int)]/\m < n/\Rep H x d/\pd d=true/\∀ H',bc H H'->Q (.bl (arP (isT many m) d)) H'
theorem sr (f:Dm->Bool):∀ ds:List Dm,(ds.map f).all (fun b=>b)=ds.all f
 | []=>rfl
 | d::r=>by
  have ih:=sr f r
  show (f d && (r.map f).all (fun b=>b))=(f d && r.all f)
  rw[ih]
theorem eZ {n k : Nat} {t1 t2 : ZK} (F : Fun K "are_parts" "are_parts" kI f fd) (B : Bt mg) (c_FEWEST_PARTS : mg "FEWEST_PARTS" = some (.int 2 t1)) (c_MOST_PARTS : mg "MOST_PARTS" = some (.int 6 t2))
    (hk : 1 ≤ k) (D_is_number : Df P w K mg base "is_number" 1 ["thing", "low", "high"] kZ) (D_is_term_within : Df P w K mg base "is_term_within" k ["many", "thing", "deep"] (jF n)) : dB P w K mg base CX0 (k + 1) f fd ["many", "thing", "deep"] (Du n) := by
  refine F.ok wu (fun vs H Q E h => ?_) (fun cdv A outer s H vs Q E hr h => ?_)
  · obtain ⟨x, d, many, m, rfl, _⟩ := h
    rfl
  · obtain ⟨x, d, many, m, rfl, hm, rx, hp, q⟩ := h
    refine ⟨_, (au (bu (PW.pt (dW (dH (dq (aG (r := uP K) cz rfl B.isinstance_ aW (aa (pv 1) (aa (jB B.tuple_ bJ) ao))))) (dY (dH (dq (bF D_is_number hr (aa (aG (r := nZ K) bf rfl B.len_ bW (aa (pv 1) ao)) (aa (lD c_FEWEST_PARTS) (aa (lD c_MOST_PARTS) ao))))))))) (aA (aJ lr)) aM)
 (aA (aJ (aG (r := El K) (lE rfl) rfl B.all_ zg (aa (eG (L := ["part"]) (F := ["many", "deep"]) (cap := [0, 2]) rfl (bU rfl rfl (by kernel_rfl)) (iZ (pv 1)) (fun _ _ _ _ _ => (aN (i := 0) (bM (by decide +kernel)) rfl (RJ rfl))) (fun _ _ _ _ _ => cF) (fun _ _ _ _ _ => (bF D_is_term_within hr (aa (pv 1) (aa (pv 0) (aa (pv 2) ao)))))) ao))))), ?_⟩
    cases rx with
    | int i => exact ⟨_, rfl, _, _, _, _, rfl, .int i, jm _, _, rfl, bR (bR (q H (bc.refl H)))⟩
    | str z => exact ⟨_, rfl, _, _, _, _, rfl, .str z, jx _, _, rfl, bR (bR (q H (bc.refl H)))⟩
    | @tup a xs ds h l r =>
      have hp40 := (qT hp).1
      replace hp := (qT hp).2
      have el := r.length
      refine ⟨_, rfl, _, _, _, _, rfl, .tup h, jO _ _, _, rfl, dF ?_⟩
      refine ⟨_, rfl, a, _, rfl, .inr (SqT.of h), .int (xs.length : Int), .int (xs.length : Int), 2, 6, rfl, .int _, rfl, _, rfl, ?_⟩
      have ea : arP (isT many m) (.tup ds) = (isNum (.int (xs.length : Int)) 2 6 && ds.all (isT many m)) := by unfold arP; rw [el]
      rw [ea] at q
      cases hn : isNum (.int (xs.length : Int)) 2 6 with
      | false =>
        rw [hn, TY] at q
        exact bR (q H (bc.refl H))
      | true =>
        rw [hn, Tq] at q
        have l6 : xs.length ≤ 6 := by
          unfold isNum at hn
          simp at hn
          lia
        refine dF ⟨_, rfl, a, rfl, ⟨_, SqT.of h⟩, fun D hD => fJ (K := K) (a := a) (xs := xs) (fun i zs σ' H2 => (∃ u, σ' = [u, some (.int many), some (.int (m : Int))]) ∧ zs = ((ds.take i).map (isT many m)).map V.bl ∧ bc H H2 ∧ H2 D = some (.lst zs))
          ⟨⟨_, rfl⟩, rfl, az hD _, aj⟩ (fun i zs σ' H2 _ h2 => ⟨Bl h2.2.2.1 (SqT.of h), h2.2.2.2⟩) ?_ ?_⟩
        · rintro i zs x σ' H2 hx ⟨⟨u, rfl⟩, e1, sm, hDl⟩
          have hi : i < ds.length := by
            have := (List.getElem?_eq_some_iff.mp hx).1
            lia
          obtain ⟨v, hv, rv⟩ := sV r hi
          rw [hx] at hv
          cases hv
          have ed : ds[i]? = some (ds.getD i .non) := by rw [RZ, Rn hi]; rfl
          refine gT ?_
          refine ⟨_, rfl, _, rfl, _, rfl, x, ds.getD i .non, many, m, rfl, hm, rv.mono sm, Jq hp hi, fun H3 s3 => ⟨s3 _ _ hDl, ?_, ⟨_, rfl⟩, ?_, aY (sm.trans s3) hD _, aj⟩⟩
          · rw [e1, Q8, Q8, RN]
            exact bj (by lia)
          · rw [e1, SJ, ed, Rx, Rx]
            rfl
        · rintro zs σ' H2 ⟨_, e1, sm, hDl⟩
          rw [el, R6] at e1
          refine ⟨D, ds.map (isT many m), rfl, SqL.of (by rw [hDl, e1]), ?_⟩
          rw [sr]
          exact q H2 sm
    | non => rw [pd] at hp; · cases hp
             all_goals simp
    | bl b => rw [pd] at hp; · cases hp
              all_goals simp
    | lst h l r => rw [pd] at hp; · cases hp
                   all_goals simp
theorem wZ:dB P w K mg base CX0 1 f fd ["many","thing","deep"] (jF 0):=by
 have no:∀ vs H Q E,¬ jF 0 vs H Q E:=fun vs H Q E h=>by
  obtain⟨x,d,many,m,_,h1,_⟩:=h
  lia
 exact⟨fun vs H Q E h=>absurd h (no vs H Q E),fun A outer s H args us vs Q E _ _ _ _ h=>absurd h (no vs H Q E)⟩
theorem cH {n k : Nat} {t1 t2 t3 : ZK} (F : Fun K "is_term_within" "is_term_within" fu f fd) (B : Bt mg)
    (c_MOST_STEP : mg "MOST_STEP" = some (.int 9 t1)) (c_MOST_SUM : mg "MOST_SUM" = some (.int 99 t2)) (c_MOST_FOLK : mg "MOST_FOLK" = some (.int 12 t3)) (hk : 2 ≤ k) (D_is_number : Df P w K mg base "is_number" 1 ["thing", "low", "high"] kZ) (D_is_crowd : Df P w K mg base "is_crowd" 2 ["many", "thing", "fewest"] Ik)
    (D_are_parts : Df P w K mg base "are_parts" k ["many", "thing", "deep"] (Du n)) : dB P w K mg base CX0 (k + 1) f fd ["many", "thing", "deep"] (jF (n + 1)) := by
  refine F.ok ie (fun vs H Q E h => ?_) (fun cdv A outer s H vs Q E hr h => ?_)
  · obtain ⟨x, d, many, m, rfl, _⟩ := h
    rfl
  · obtain ⟨x, d, many, m, rfl, hm, rx, hp, q⟩ := h
    refine ⟨_, (au (bu (PW.pt (dW (aD uN (pv 2) aq (aK _)) (dW (dH (dq (aG (r := uP K) cz rfl B.isinstance_ aW (aa (pv 1) (aa (jB B.tuple_ bJ) ao))))) (dY (aD cD (aG (r := nZ K) bf rfl B.len_ bW (aa (pv 1) ao)) aq (aK _)))))) (aA (aJ lr)) aM)
 (au (aU (i := 3) ie.nd rfl (RJ rfl) (aQ (r := jd K) bH (pv 1) aq (fun _ _ => rfl)))
 (au (bu (PW.pt (dW (aD (r := Ih) (qX hr) (pv 3) aC (aK _)) (dY (aD (r := Ih) (qX hr) (pv 3) aC (aK _))))) (aA (aJ (cR cD (aG (r := nZ K) bf rfl B.len_ bW (aa (pv 1) ao)) aq (aK _)))) aM)
 (au (bu (aD (r := Ih) (qX hr) (pv 3) aC (aK _)) (aA (aJ (eV (cR cD (aG (r := nZ K) bf rfl B.len_ bW (aa (pv 1) ao)) aq (aK _)) (eV (bF D_is_number hr (aa (aQ (r := jd K) bH (pv 1) aq (fun _ _ => rfl)) (aa aq (aa (aL gQ (pv 0) aq) ao)))) (jW (bF D_is_number hr (aa (aQ (r := jd K) bH (pv 1) aq (fun _ _ => rfl)) (aa aq (aa (lD c_MOST_STEP) ao))))))))) aM)
 (au (bu (aD (r := Ih) (qX hr) (pv 3) aC (aK _)) (aA (aJ (eV (cR cD (aG (r := nZ K) bf rfl B.len_ bW (aa (pv 1) ao)) aq (aK _)) (eV (bF D_is_crowd hr (aa (pv 0) (aa (aQ (r := jd K) bH (pv 1) aq (fun _ _ => rfl)) (aa aq ao)))) (jW (bF D_is_number hr (aa (aQ (r := jd K) bH (pv 1) aq (fun _ _ => rfl)) (aa aq (aa (lD c_MOST_SUM) ao))))))))) aM)
 (au (bu (aD (r := Ih) (qX hr) (pv 3) aC (aK _)) (au (bu (PW.pt (dW (aD rM (aG (r := nZ K) bf rfl B.len_ bW (aa (pv 1) ao)) aq (aK _)) (dY (dH (dq (bF D_is_crowd hr (aa (pv 0) (aa (aQ (r := jd K) bH (pv 1) aq (fun _ _ => rfl)) (aa aq ao))))))))) (aA (aJ lr)) aM)
 (aA (aJ (eV (bF D_is_number hr (aa (aQ (r := jd K) bH (pv 1) aq (fun _ _ => rfl)) (aa aq (aa (lD c_MOST_STEP) ao)))) (jW (bF D_is_number hr (aa (aQ (r := jd K) bH (pv 1) aq (fun _ _ => rfl)) (aa aq (aa (lD c_MOST_FOLK) ao))))))))) aM)
 (au (bu (PW.pt (dW (aD (r := Ih) (qX hr) (pv 3) aC (aK _)) (dY (aD (r := Ih) (qX hr) (pv 3) aC (aK _))))) (aA (aJ (eV (cR cD (aG (r := nZ K) bf rfl B.len_ bW (aa (pv 1) ao)) aq (aK _)) (jW (bF D_are_parts hr (aa (pv 0) (aa (aQ (r := jd K) bH (pv 1) aq (fun _ _ => rfl)) (aa (aL gQ (pv 2) aq) ao)))))))) aM)
 (aA (aJ lr))))))))), ?_⟩
    cases m with
    | zero => exact ⟨_, rfl, _, _, rfl, rfl, _, rfl, bR (bR (q H (bc.refl H)))⟩
    | succ m =>
    refine ⟨_, rfl, _, _, rfl, rfl, _, rfl, dU (by lia) ?_⟩
    cases rx with
    | int i => exact ⟨_, rfl, _, _, _, _, rfl, .int i, jm _, _, rfl, bR (bR (q H (bc.refl H)))⟩
    | str z => exact ⟨_, rfl, _, _, _, _, rfl, .str z, jx _, _, rfl, bR (bR (q H (bc.refl H)))⟩
    | @tup a xs ds h l r =>
      have hp40 := (qT hp).1
      replace hp := (qT hp).2
      have el := r.length
      have q0 := q H (bc.refl H)
      rw [isT] at q0
      refine ⟨_, rfl, _, _, _, _, rfl, .tup h, jO _ _, _, rfl, dF ?_⟩
      refine ⟨_, rfl, a, _, rfl, .inr (SqT.of h), rfl, _, rfl, ?_⟩
      have e0 := Iu xs.length 0
      rw [show ((0 : Nat) : Int) = 0 from rfl] at e0
      rw [e0]
      by_cases hl0 : ds.length = 0
      · rw [if_pos hl0] at q0
        rw [decide_eq_true (by lia)]
        exact bR q0
      · rw [if_neg hl0] at q0
        rw [decide_eq_false (by lia)]
        refine dF ?_
        obtain ⟨v0, hv0, r0⟩ := sV r (k := 0) (by lia)
        refine ⟨_, rfl, a, _, _, _, rfl, rfl, SqT.of h, aF hv0, ?_⟩
        refine gN ?_
        dsimp only
        show xf (Bb _ _ _) _ _ _ _
        have len : ∀ k : Nat, decide (V.int (xs.length : Int) = V.int (k : Int)) = decide (ds.length = k) := fun k => by rw [Iu, el]
        refine Hz (cY ds "free") (cY ds "never") (fun Q' hQ => ⟨_, rfl, _, _, r0, rfl, _, rfl, hQ⟩) (fun _ Q' hQ => ⟨_, rfl, _, _, r0, rfl, _, rfl, hQ⟩) (fun hc => ?_) (fun hc => ?_)
        · rw [if_pos hc] at q0
          refine ⟨_, rfl, a, _, rfl, .inr (SqT.of h), rfl, ?_⟩
          have e1 := len 1
          rw [show ((1 : Nat) : Int) = 1 from rfl] at e1
          rw [e1]
          exact q0
        have hc1 := hc
        rw [if_neg (by rw [hc]; exact Rv)] at q0
        have num : ∀ {j : Nat} (lo hi : Int), j < ds.length → ∃ v, xs[j]? = some v ∧ Rep H v (ds.getD j .non) ∧ pd (ds.getD j .non) = true := fun {j} _ _ hj => by
          obtain ⟨v, h1, h2⟩ := sV r hj
          exact ⟨v, h1, h2, Jq hp hj⟩
        refine ⟨_, rfl, _, _, r0, rfl, _, rfl, ?_⟩
        refine jG (fun hg => ?_) (fun hg => ?_)
        · rw [if_pos (show cY ds "gives" = true from hg)] at q0
          have e3 := len 3
          rw [show ((3 : Nat) : Int) = 3 from rfl] at e3
          refine ⟨_, rfl, a, _, rfl, .inr (SqT.of h), rfl, _, rfl, ?_⟩
          rw [e3]
          refine jG (fun h3 => ?_) (fun h3 => ?_)
          · rw [h3, Tq] at q0
            have h3' : ds.length = 3 := of_decide_eq_true h3
            obtain ⟨v1, a1, b1, c1⟩ := num (j := 1) 0 0 (by lia)
            obtain ⟨v2, a2, b2, c2⟩ := num (j := 2) 0 0 (by lia)
            refine ⟨_, rfl, a, _, _, _, rfl, rfl, SqT.of h, aF a1, _, rfl, _, _, rfl, rfl, v1, _, 0, many - 1, rfl, b1, c1, _, rfl, ?_⟩
            refine jG (fun z => ?_) (fun z => ?_)
            · rw [z, Tq] at q0
              exact ⟨_, rfl, a, _, _, _, rfl, rfl, SqT.of h, aF a2, v2, _, 1, 9, rfl, b2, c2, q0⟩
            · rw [Bool.eq_false_iff.mpr z, TY] at q0
              exact q0
          · rw [Bool.eq_false_iff.mpr h3, TY] at q0
            exact q0
        have hg1 : ¬ cY ds "gives" = true := hg
        rw [if_neg hg1] at q0
        refine ⟨_, rfl, _, _, r0, rfl, _, rfl, ?_⟩
        refine jG (fun hg => ?_) (fun hg => ?_)
        · rw [if_pos (show cY ds "sum" = true from hg)] at q0
          have e3 := len 3
          rw [show ((3 : Nat) : Int) = 3 from rfl] at e3
          refine ⟨_, rfl, a, _, rfl, .inr (SqT.of h), rfl, _, rfl, ?_⟩
          rw [e3]
          refine jG (fun h3 => ?_) (fun h3 => ?_)
          · rw [h3, Tq] at q0
            have h3' : ds.length = 3 := of_decide_eq_true h3
            obtain ⟨v1, a1, b1, c1⟩ := num (j := 1) 0 0 (by lia)
            obtain ⟨v2, a2, b2, c2⟩ := num (j := 2) 0 0 (by lia)
            refine ⟨_, rfl, _, rfl, a, _, _, _, rfl, rfl, SqT.of h, aF a1, v1, _, many, 2, rfl, b1, c1, _, rfl, ?_⟩
            refine jG (fun z => ?_) (fun z => ?_)
            · rw [z, Tq] at q0
              exact ⟨_, rfl, a, _, _, _, rfl, rfl, SqT.of h, aF a2, v2, _, 1, 99, rfl, b2, c2, q0⟩
            · rw [Bool.eq_false_iff.mpr z, TY] at q0
              exact q0
          · rw [Bool.eq_false_iff.mpr h3, TY] at q0
            exact q0
        have hg2 : ¬ cY ds "sum" = true := hg
        rw [if_neg hg2] at q0
        refine ⟨_, rfl, _, _, r0, rfl, _, rfl, ?_⟩
        refine jG (fun hg => ?_) (fun hg => ?_)
        · rw [if_pos (show cY ds "crowd" = true from hg)] at q0
          have e4 := len 4
          rw [show ((4 : Nat) : Int) = 4 from rfl] at e4
          refine ⟨_, rfl, a, _, rfl, .inr (SqT.of h), rfl, _, rfl, ?_⟩
          rw [e4]
          by_cases h4 : ds.length = 4
          · rw [decide_eq_true h4, Tq] at q0
            rw [decide_eq_true h4]
            obtain ⟨v1, a1, b1, c1⟩ := num (j := 1) 0 0 (by lia)
            obtain ⟨v2, a2, b2, c2⟩ := num (j := 2) 0 0 (by lia)
            obtain ⟨v3, a3, b3, c3⟩ := num (j := 3) 0 0 (by lia)
            refine dF ⟨_, rfl, _, rfl, a, _, _, _, rfl, rfl, SqT.of h, aF a1, v1, _, many, 1, rfl, b1, c1, _, rfl, ?_⟩
            cases z : Dq many (ds.getD 1 .non) 1 with
            | false =>
              rw [z, TY] at q0
              exact bR q0
            | true =>
              rw [z, Tq] at q0
              refine dF ⟨_, rfl, a, _, _, _, rfl, rfl, SqT.of h, aF a2, v2, _, 1, 9, rfl, b2, c2, _, rfl, ?_⟩
              refine jG (fun z => ?_) (fun z => ?_)
              · rw [z, Tq] at q0
                exact ⟨_, rfl, a, _, _, _, rfl, rfl, SqT.of h, aF a3, v3, _, 1, 12, rfl, b3, c3, q0⟩
              · rw [Bool.eq_false_iff.mpr z, TY] at q0
                exact q0
          · rw [decide_eq_false h4, TY] at q0
            rw [decide_eq_false h4]
            exact bR (bR q0)
        have hg3 : ¬ cY ds "crowd" = true := hg
        rw [if_neg hg3] at q0
        refine nN ?_
        dsimp only
        show xf (Bb _ _ _) _ _ _ _
        refine Hz (cY ds "all") (cY ds "any") (fun Q' hQ => ⟨_, rfl, _, _, r0, rfl, _, rfl, hQ⟩) (fun _ Q' hQ => ⟨_, rfl, _, _, r0, rfl, _, rfl, hQ⟩) (fun hc => ?_) (fun hc => ?_)
        · rw [if_pos hc] at q0
          have e2 := len 2
          rw [show ((2 : Nat) : Int) = 2 from rfl] at e2
          refine ⟨_, rfl, a, _, rfl, .inr (SqT.of h), rfl, _, rfl, ?_⟩
          rw [e2]
          refine jG (fun h2 => ?_) (fun h2 => ?_)
          · rw [h2, Tq] at q0
            have h2' : ds.length = 2 := of_decide_eq_true h2
            obtain ⟨v1, a1, b1, c1⟩ := num (j := 1) 0 0 (by lia)
            refine ⟨_, rfl, _, rfl, a, _, _, _, rfl, rfl, SqT.of h, aF a1, _, rfl, _, _, rfl, rfl, v1, _, many, m, ?_, by lia, b1, c1, fun H' s' => ?_⟩
            · show [V.int many, v1, V.int (((m + 1 : Nat) : Int) - 1)] = [V.int many, v1, V.int (m : Int)]
              rw [show ((m + 1 : Nat) : Int) - 1 = (m : Int) by lia]
            · have q1 := q H' s'
              rw [isT, if_neg hl0, if_neg (by rw [hc1]; exact Rv), if_neg hg1, if_neg hg2, if_neg hg3, if_pos hc, h2, Tq] at q1
              exact q1
          · rw [Bool.eq_false_iff.mpr h2, TY] at q0
            exact q0
        · rw [if_neg (by rw [hc]; exact Rv)] at q0
          exact q0
    | non => rw [pd] at hp; · cases hp
             all_goals simp
    | bl b => rw [pd] at hp; · cases hp
              all_goals simp
    | lst h l r => rw [pd] at hp; · cases hp
                   all_goals simp
def uH:Sp:=fun vs H Q _=>∃ (x:V) (d:Dm) (many:Int),vs=[.int many,x]/\Rep H x d/\pd d=true/\∀ H',bc H H'->Q (.bl (isT many 4 d)) H'
theorem Am {k:Nat} {t1:ZK} (F:Fun K "is_term" "is_term" ql f fd) (B:Bt mg) (c_MOST_DEPTH:mg "MOST_DEPTH" = some (.int 4 t1))
  (D_is_term_within:Df P w K mg base "is_term_within" k ["many","thing","deep"] (jF 5)):dB P w K mg base CX0 (k+1) f fd ["many","term"] uH:=by
 refine F.ok Ac (fun vs H Q E h=>?_) (fun cdv A outer s H vs Q E hr h=>?_)
 ·obtain⟨x,d,many,rfl,_⟩:=h
  rfl
 ·obtain⟨x,d,many,rfl,rx,hp,q⟩:=h
  refine⟨_,(aA (aJ (bF D_is_term_within hr (aa (pv 0) (aa (pv 1) (aa (lD c_MOST_DEPTH) ao)))))),?_⟩
  exact⟨_,rfl,_,rfl,x,d,many,4,rfl,by decide,rx,hp,q⟩
mutual
def mnF:Tm->List Nat
 | .free=>[]
 | .never=>[]
 | .gives i _=>[i]
 | .sum c _=>c
 | .crowd c _ _=>c
 | .all ts=>mnL ts
 | .any ts=>mnL ts
def mnL:List Tm->List Nat
 | []=>[]
 | t::r=>mnF t++mnL r
end
theorem nM:∀ (ts us:List Tm),mnL (ts++us)=mnL ts++mnL us
 | [],us=>by rw[mnL]; rfl
 | t::r,us=>by rw[Tg,mnL,mnL,nM r us,RG]
theorem zx {ts:List Tm} {i:Nat} {t:Tm} (h:ts[i]? = some t):mnL (ts.take (i+1))=mnL (ts.take i)++mnF t:=by
 rw[SJ,h,nM]
 show _++mnL [t]=_
 rw[mnL,mnL,Ss]
theorem mG:∀ {c:List Nat} {n:Nat},c.Pairwise (· < ·)->(∀ i∈c,i < n)->c.length<=n:=by
 have key:∀ (c:List Nat) (a n:Nat),c.Pairwise (· < ·)->(∀ i∈c,a<=i/\i < n)->c.length<=n - a:=by
  intro c
  induction c with
  | nil=>intro a n _ _; exact Sd _
  | cons x r ih =>
   intro a n hp hb
   rw[Ul] at hp
   have hx:=hb x Rc
   have:=ih (x+1) n hp.2 fun i hi=>⟨hp.1 i hi,(hb i (Ri _ hi)).2⟩
   rw[Rg]
   lia
 intro c n hp hb
 have:=key c 0 n hp fun i hi=>⟨Sd _,hb i hi⟩
 lia
mutual
theorem HW {n:Nat} {H:Hp} (hn:n<=12):∀ (d:Nat) {v:V} {t:Tm},jg n H v t->t.dep<=d+1->(mnF t).length<=12 * 6 ^ d
 | d,_,_,.free _,_=>by rw[mnF]; exact Sd _
 | d,_,_,.never _,_=>by rw[mnF]; exact Sd _
 | d,_,_,.gives _ _ _ _,_=>by
  rw[mnF]
  have:0 < 6 ^ d:=Vv (by decide)
  show 1<=_
  lia
 | d,_,_,.sum _ _ hc hp _ _ _ _,_=>by
  rw[mnF]
  have:=mG hp hc
  have:0 < 6 ^ d:=Vv (by decide)
  lia
 | d,_,_,.crowd _ _ hc hp _ _ _ _ _ _,_=>by
  rw[mnF]
  have:=mG hp hc
  have:0 < 6 ^ d:=Vv (by decide)
  lia
 | 0,_,_,.all (vs:=vs) (ts:=ts) _ _ l2 _ rl,hd=>by
  have:=BP rl l2
  rw[Tm.dep] at hd
  lia
 | d+1,_,_,.all (ts:=ts) _ _ _ l6 rl,hd=>by
  rw[mnF]
  rw[Tm.dep] at hd
  have h1:=wU hn d rl (by lia)
  have h2:=rl.length
  have h3:ts.length * (12 * 6 ^ d)<=6 * (12 * 6 ^ d):=Vm _ (by lia)
  rw[X8]
  lia
 | 0,_,_,.any (vs:=vs) (ts:=ts) _ _ l2 _ rl,hd=>by
  have:=BP rl l2
  rw[Tm.dep] at hd
  lia
 | d+1,_,_,.any (ts:=ts) _ _ _ l6 rl,hd=>by
  rw[mnF]
  rw[Tm.dep] at hd
  have h1:=wU hn d rl (by lia)
  have h2:=rl.length
  have h3:ts.length * (12 * 6 ^ d)<=6 * (12 * 6 ^ d):=Vm _ (by lia)
  rw[X8]
  lia
theorem wU {n:Nat} {H:Hp} (hn:n<=12):∀ (d:Nat) {vs:List V} {ts:List Tm},cM n H vs ts->tdL ts<=d+1->(mnL ts).length<=ts.length * (12 * 6 ^ d)
 | d,_,_,.nil,_=>by rw[mnL]; exact Sd _
 | d,_,_,.cons (ts:=ts) h r,hd=>by
  rw[tdL] at hd
  have h1:=HW hn d h (by lia)
  have h2:=wU hn d r (by lia)
  rw[mnL,Rf,Rg,Nat.add_mul,Yz]
  lia
theorem BP {n:Nat} {H:Hp}:∀ {vs:List V} {ts:List Tm},cM n H vs ts->2<=vs.length->1<=tdL ts
 | _,_,.nil,h=>by simp at h
 | _,_,.cons (t:=t) _ _,_=>by
  rw[tdL]
  have:=t.m8
  lia
end
mutual
theorem K5 {n:Nat} {H:Hp}:∀ {v:V} {t:Tm},jg n H v t->∀ i∈mnF t,i < n
 | _,_,.free _=>fun i hi=>by rw[mnF] at hi; cases hi
 | _,_,.never _=>fun i hi=>by rw[mnF] at hi; cases hi
 | _,_,.gives _ h _ _=>fun i hi=>by rw[mnF] at hi; rw[List.mem_singleton.mp hi]; exact h
 | _,_,.sum _ _ hc _ _ _ _ _=>fun i hi=>by rw[mnF] at hi; exact hc i hi
 | _,_,.crowd _ _ hc _ _ _ _ _ _ _=>fun i hi=>by rw[mnF] at hi; exact hc i hi
 | _,_,.all _ _ _ _ rl=>fun i hi=>by rw[mnF] at hi; exact En rl i hi
 | _,_,.any _ _ _ _ rl=>fun i hi=>by rw[mnF] at hi; exact En rl i hi
theorem En {n:Nat} {H:Hp}:∀ {vs:List V} {ts:List Tm},cM n H vs ts->∀ i∈mnL ts,i < n
 | _,_,.nil=>fun i hi=>by rw[mnL] at hi; cases hi
 | _,_,.cons h r=>fun i hi=>by
  rw[mnL] at hi
  rcases List.mem_append.mp hi with z | z
  ·exact K5 h i z
  ·exact En r i z
end
theorem Qx {d:Nat} (h:d<=4):12 * 6 ^ (d - 1)<=2592:=by
 have:6 ^ (d - 1)<=6 ^ 3:=Nat.pow_le_pow_right (by decide) (by lia)
 have:(6:Nat) ^ 3=216:=by decide
 lia
theorem zb {n d:Nat} {H:Hp} {v:V} {t:Tm} (hn:n<=12) (h4:d<=4) (r:jg n H v t) (hd:t.dep<=d):(mnF t).length<=2592:=by
 have:=t.m8
 exact RP (HW hn (d - 1) r (by lia)) (Qx h4)
theorem Lw {ts:List Tm} (i:Nat):(mnL (ts.take i)).length<=(mnL ts).length:=by
 have:=congrArg ZX (nM (ts.take i) (ts.drop i))
 rw[Ys,Rf] at this
 lia
def pX (d:Nat):Sp:=fun vs H Q _=>∃ (v:V) (n:Nat) (t:Tm),vs=[v]/\jg n H v t/\t.dep<=d/\d<=4/\n<=12/\∀ (r:Addr) (H':Hp),bc H H'->H r=none->H' r=some (.lst ((mnF t).map vN))->Q (.ref r) H'
theorem DK {ps:List Str}:dB P w K mg base CX0 0 f fd ps (pX 0):=by
 have no:∀ vs H Q E,¬ pX 0 vs H Q E:=fun vs H Q E h=>by
  obtain⟨v,n,t,_,_,h1,_⟩:=h
  have:=t.m8
  lia
 exact⟨fun vs H Q E h=>absurd h (no vs H Q E),fun A outer s H args us vs Q E _ _ _ _ h=>absurd h (no vs H Q E)⟩
abbrev mU:Stmt:=top 16
theorem qu:aV ["term","kind"] ["term"] (aB mU):=⟨rfl,rfl,rfl,by decide+kernel,rfl,by decide+kernel,by decide+kernel⟩
theorem iW {d:Nat} (F:Fun K "mentions" "mentions" mU f fd) (B:Bt mg)
  (D_mentions:Df P w K mg base "mentions" d ["term"] (pX d)):dB P w K mg base CX0 (d+1) f fd ["term"] (pX (d+1)):=by
 refine F.ok qu (fun vs H Q E h=>?_) (fun cdv A outer s H vs Q E hr h=>?_)
 ·obtain⟨v,n,t,rfl,_⟩:=h
  rfl
 ·obtain⟨v,n,t,rfl,rt,hd,h4,hn,q⟩:=h
  refine⟨_,(au (aU (i:=1) qu.nd rfl (RJ rfl) (aQ (r:=jd K) bH (pv 0) aq (fun _ _=>rfl)))
 (au (bu (aD cD (pv 1) aC (aK _)) (aA (aJ (cj (aa (aQ (r:=jd K) bH (pv 0) aq (fun _ _=>rfl)) ao)))) aM)
 (au (bu (PW.pt (dW (aD cD (pv 1) aC (aK _)) (dY (aD cD (pv 1) aC (aK _))))) (aA (aJ (aX (r:=Bo K) zV rfl B.list_ xT (aa (aQ (r:=jd K) bH (pv 0) aq (fun _ _=>rfl)) ao)))) aM)
 (au (bu (PW.pt (dW (aD cD (pv 1) aC (aK _)) (dY (aD cD (pv 1) aC (aK _))))) (aA (aJ (Fv (L:=["part","one"]) (F:=[]) (cap:=[]) rfl (bU rfl rfl (by kernel_rfl)) (iZ (aQ (r:=jd K) bH (pv 0) aq (fun _ _=>rfl))) (fun _ _ _ _ _=>(aN (i:=0) (bM (by decide+kernel)) rfl (RJ rfl))) (fun _ _ _ _ _=>(G5 K rfl (bF D_mentions hr (aa (pv 0) ao)))) (fun _ _ _ _ _=>(aN (i:=1) (bM (by decide+kernel)) rfl (RJ rfl))) (fun _ _ _ _ _=>(pv 1))))) aM)
 (aA (aJ (cj ao))))))),?_⟩
  have small':=zb hn h4 rt hd
  have parts:∀ {b:Addr} {us:List V} {ts:List Tm},H b=some (.tup us)->cM n H us ts->tdL ts<=d->(mnL ts).length<=2592->∀ {σ':St} {D:Addr},H D=none->(∀ H2,bc H H2->H2 D=some (.lst ((mnL ts).map vN))->Q (.ref D) H2) →
    oW D [none,none] (Itt K b) (pI 0) (JP K (yd (pX d) [] E0 (oO (Ai 0) Fz))) (pI 1) (Ai 1) H (fun H2=>Q (.ref D) H2):=by
   intro b us ts hb rl hdl lm σ' D hD hq
   have el:=rl.length
   refine Ci (K:=K) (a:=b) (xs:=us) (fun i zs σ' H2=>(∃ u v,σ'=[u,v])/\bc H H2/\H2 D=some (.lst zs)/\zs=(mnL (ts.take i)).map vN) ⟨⟨_,_,rfl⟩,az hD _,aj,by rw[WK,mnL]; rfl⟩ (fun i zs σ' H2 _ h=>SqT.of (h.2.1 _ _ hb)) ?_ ?_
   ·rintro i zs x σ' H2 hx ⟨⟨u,v,rfl⟩,sm,eD,ez⟩
    obtain⟨t',ht,rt'⟩:=rl.get hx
    refine⟨_,rfl,x,n,t',rfl,rt'.mono sm,RP (qI ht) hdl,by lia,hn,fun r H3 s3 fr er=>?_⟩
    have hrD:r≠D:=fun z=>by rw[z,eD] at fr; cases fr
    refine⟨r,rfl,⟨_,SqL.of er⟩,Gk (K:=K) (b:=r) (ws:=(mnF t').map vN) (fun j ws σ' H4=>(∃ u,σ'=[some x,u])/\bc H H4/\H4 r=some (.lst ((mnF t').map vN))/\H4 D=some (.lst ws)/\ws=(mnL (ts.take i)++(mnF t').take j).map vN)
     ⟨⟨_,rfl⟩,sm.trans s3,er,s3 _ _ eD,by rw[WK,Ss]; exact ez⟩ (fun j ws σ' H4 _ h=>SqL.of h.2.2.1) ?_ ?_⟩
    ·rintro j ws y σ' H4 hy ⟨⟨u,rfl⟩,s4,er4,eD4,ew⟩
     obtain⟨m,hm,rfl⟩:=Bg hy
     have hlen:ws.length<=2592:=by
      have h1:=Lw (ts:=ts) (i+1)
      rw[zx ht,Rf] at h1
      rw[ew,Q8,Rf,RN]
      lia
     refine⟨_,rfl,eD4,Sw hlen (by decide),⟨_,rfl⟩,aY s4 hD _,?_,aj,?_⟩
     ·rw[aR hrD]
      exact er4
     ·rw[ew,SJ,hm,← RG]
      show _=List.map vN ((mnL (ts.take i)++(mnF t').take j)++[m])
      rw[Rx (l₁:=mnL (ts.take i)++(mnF t').take j)]
      rfl
    ·rintro ws σ' H4 ⟨⟨u,rfl⟩,s4,er4,eD4,ew⟩
     rw[Q8,R6,← zx ht] at ew
     exact⟨⟨_,_,rfl⟩,s4,eD4,ew⟩
   ·rintro zs σ' H2 ⟨_,sm,eD,ez⟩
    rw[el,R6] at ez
    exact hq H2 sm (by rw[eD,ez])
  cases rt with
  | @free a ha =>
   refine⟨_,rfl,a,_,_,_,rfl,rfl,SqT.of ha,aF (k:=0) rfl,?_⟩
   refine⟨_,rfl,rfl,_,rfl,dU (bZ (by decide)) ?_⟩
   refine⟨_,rfl,rfl,_,rfl,dU (bZ (by decide)) ⟨_,rfl,rfl,_,rfl,dU (bZ (by decide)) ?_⟩⟩
   refine⟨_,rfl,rfl,_,rfl,dU (bZ (by decide)) ⟨_,rfl,rfl,_,rfl,dU (bZ (by decide)) ?_⟩⟩
   exact⟨small (by show 0<=1000; decide),fun r h0=>q r _ (az h0 _) h0 (by rw[aj,mnF]; rfl)⟩
  | @never a ha =>
   refine⟨_,rfl,a,_,_,_,rfl,rfl,SqT.of ha,aF (k:=0) rfl,?_⟩
   refine⟨_,rfl,rfl,_,rfl,dU (bZ (by decide)) ?_⟩
   refine⟨_,rfl,rfl,_,rfl,dU (bZ (by decide)) ⟨_,rfl,rfl,_,rfl,dU (bZ (by decide)) ?_⟩⟩
   refine⟨_,rfl,rfl,_,rfl,dU (bZ (by decide)) ⟨_,rfl,rfl,_,rfl,dU (bZ (by decide)) ?_⟩⟩
   exact⟨small (by show 0<=1000; decide),fun r h0=>q r _ (az h0 _) h0 (by rw[aj,mnF]; rfl)⟩
  | @gives a i k ha hi k1 k9 =>
   refine⟨_,rfl,a,_,_,_,rfl,rfl,SqT.of ha,aF (k:=0) rfl,?_⟩
   refine⟨_,rfl,rfl,_,rfl,lY rfl ?_⟩
   exact⟨_,rfl,a,_,_,_,rfl,rfl,SqT.of ha,aF (k:=1) rfl,small (by show 1<=1000; decide),fun r h0=>q r _ (az h0 _) h0 (by rw[aj,mnF]; rfl)⟩
  | @sum a b c k ha hb hc hp l20 l2 k1 k99 =>
   refine⟨_,rfl,a,_,_,_,rfl,rfl,SqT.of ha,aF (k:=0) rfl,?_⟩
   refine⟨_,rfl,rfl,_,rfl,dU (bZ (by decide)) ?_⟩
   refine⟨_,rfl,rfl,_,rfl,lY rfl (bR ?_)⟩
   exact⟨_,rfl,a,_,_,_,rfl,rfl,SqT.of ha,aF (k:=1) rfl,b,_,rfl,.inr (SqT.of hb),fun r h0=>q r _ (az h0 _) h0 (by rw[aj,mnF])⟩
  | @crowd a b c k mm ha hb hc hp l20 l1 k1 k9 m1 m12 =>
   refine⟨_,rfl,a,_,_,_,rfl,rfl,SqT.of ha,aF (k:=0) rfl,?_⟩
   refine⟨_,rfl,rfl,_,rfl,dU (bZ (by decide)) ?_⟩
   refine⟨_,rfl,rfl,_,rfl,dU (bZ (by decide)) ⟨_,rfl,rfl,_,rfl,lY rfl ?_⟩⟩
   exact⟨_,rfl,a,_,_,_,rfl,rfl,SqT.of ha,aF (k:=1) rfl,b,_,rfl,.inr (SqT.of hb),fun r h0=>q r _ (az h0 _) h0 (by rw[aj,mnF])⟩
  | @all a b us ts ha hb l2 l6 rl =>
   have hdl:tdL ts<=d:=by rw[Tm.dep] at hd; lia
   rw[mnF] at small'
   refine⟨_,rfl,a,_,_,_,rfl,rfl,SqT.of ha,aF (k:=0) rfl,?_⟩
   refine⟨_,rfl,rfl,_,rfl,dU (bZ (by decide)) ?_⟩
   refine⟨_,rfl,rfl,_,rfl,dU (bZ (by decide)) ⟨_,rfl,rfl,_,rfl,dU (bZ (by decide)) ?_⟩⟩
   refine⟨_,rfl,rfl,_,rfl,lY rfl (bR ?_)⟩
   exact⟨_,rfl,a,_,_,_,rfl,rfl,SqT.of ha,aF (k:=1) rfl,b,rfl,⟨_,SqT.of hb⟩,fun D hD=>parts (σ':=[]) hb rl hdl small' hD fun H2 sm eD=>q D H2 sm hD (by rw[eD,mnF])⟩
  | @any a b us ts ha hb l2 l6 rl =>
   have hdl:tdL ts<=d:=by rw[Tm.dep] at hd; lia
   rw[mnF] at small'
   refine⟨_,rfl,a,_,_,_,rfl,rfl,SqT.of ha,aF (k:=0) rfl,?_⟩
   refine⟨_,rfl,rfl,_,rfl,dU (bZ (by decide)) ?_⟩
   refine⟨_,rfl,rfl,_,rfl,dU (bZ (by decide)) ⟨_,rfl,rfl,_,rfl,dU (bZ (by decide)) ?_⟩⟩
   refine⟨_,rfl,rfl,_,rfl,dU (bZ (by decide)) ⟨_,rfl,rfl,_,rfl,lY rfl ?_⟩⟩
   exact⟨_,rfl,a,_,_,_,rfl,rfl,SqT.of ha,aF (k:=1) rfl,b,rfl,⟨_,SqT.of hb⟩,fun D hD=>parts (σ':=[]) hb rl hdl small' hD fun H2 sm eD=>q D H2 sm hD (by rw[eD,mnF])⟩
def nmI (c:List Nat) (ms:List Int):Prop:=ms.Perm (ddI (c.map fun i:Nat=>(i:Int)))/\ms.Pairwise (·<=·)
theorem Cz:∀ (ns acc:List Int) (x:Int),x∈ns.foldl SM acc->x∈acc∨x∈ns
 | [],acc,x,h=>.inl h
 | n::r,acc,x,h=>by
  rw[VD] at h
  rcases Cz r _ x h with z | z
  ·unfold SM at z
   split at z
   ·exact .inl z
   ·rcases List.mem_append.mp z with y | y
    ·exact .inl y
    ·rw[List.mem_singleton.mp y]
     exact .inr Rc
  ·exact .inr (Ri _ z)
theorem uU:∀ (n:Nat) (l:List Int),l.Nodup->(∀ x∈l,0<=x/\x < (n:Int))->l.length<=n
 | 0,l,_,h=>by
  cases l with
  | nil=>exact Sd _
  | cons x r =>
   have:=h x Rc
   lia
 | n+1,l,nd,h=>by
  have h1:=uU n (l.erase (n:Int)) (nd.erase _) fun x hx=>by
   have hx':=List.mem_of_mem_erase hx
   have b:=h x hx'
   have ne:x≠(n:Int):=fun z=>by
    rw[z] at hx
    exact (List.Nodup.mem_erase_iff nd).mp hx |>.1 rfl
   lia
  have h2:l.length<=(l.erase (n:Int)).length+1:=by
   rw[List.length_erase]
   split <;> lia
  lia
theorem Ld {c:List Nat} {n:Nat} (h:∀ i∈c,i < n):(ddI (c.map fun i:Nat=>(i:Int))).length<=n:=by
 rw[rR]
 refine uU n _ (oZ _ [] List.nodup_nil) fun x hx=>?_
 rcases Cz _ [] x hx with z | z
 ·cases z
 ·obtain⟨i,hi,rfl⟩:=List.mem_map.mp z
  have:=h i hi
  lia
abbrev yj:Stmt:=top 17
theorem Fp:aV ["term"] ["term"] (aB yj):=⟨rfl,rfl,rfl,by decide+kernel,rfl,by decide+kernel,by decide+kernel⟩
def Eo:Sp:=fun vs H Q _=>∃ (v:V) (n:Nat) (t:Tm),vs=[v]/\jg n H v t/\t.dep<=4/\n<=12/\∀ (r:Addr) (ms:List Int) (H':Hp),bc H H'->H r=none->nmI (mnF t) ms->H' r=some (.lst (ms.map V.int))->Q (.ref r) H'
theorem Gu {k:Nat} (F:Fun K "named" "named" yj f fd) (B:Bt mg)
  (D_mentions:Df P w K mg base "mentions" k ["term"] (pX 4)):dB P w K mg base CX0 (k+1) f fd ["term"] Eo:=by
 refine F.ok Fp (fun vs H Q E h=>?_) (fun cdv A outer s H vs Q E hr h=>?_)
 ·obtain⟨v,n,t,rfl,_⟩:=h
  rfl
 ·obtain⟨v,n,t,rfl,rt,hd,hn,q⟩:=h
  refine⟨_,(aA (aJ (gF rfl rfl B.sorted_ rfl B.set_ (aa (bF D_mentions hr (aa (pv 0) ao)) ao)))),?_⟩
  refine⟨_,rfl,v,n,t,rfl,rt,hd,by decide,hn,fun r H1 s1 fr er=>?_⟩
  have lm:=zb hn (Rh 4) rt hd
  have ld:=Ld (K5 rt)
  refine⟨r,(mnF t).map fun i:Nat=>(i:Int),rfl,SqL.of (by rw[er,mY]),by rw[Q8]; lia,by lia,fun ms pm so l hl=>?_⟩
  exact q l ms _ (s1.trans (az hl _)) (s1.free hl) ⟨pm,so⟩ aj
abbrev kJ:Stmt:=top 1
def MF (H:Hp) (x C dx:Addr) (w:Str):Hp:=upd (upd (upd H x (xO x C none)) dx (.xd [("word",.str w)])) x (xO x C (some dx))
theorem MN {H:Hp} {x C dx:Addr} {w:Str}:MF H x C dx w x=some (xO x C (some dx)):=aj
theorem Nm {H:Hp} {x C dx:Addr} {w:Str} (h:dx≠x):MF H x C dx w dx=some (.xd [("word",.str w)]):=(aR h).trans aj
theorem Gz:aV ["self","word"] ["self","word"] (aB (inClass kJ 0)):=⟨rfl,rfl,rfl,by decide+kernel,rfl,by decide+kernel,by decide+kernel⟩
def Dn (K:R7):Sp:=fun vs H Q _=>∃ (x C f:Addr) (w:Str),vs=[.ref x,.str w]/\H x=some (xO x C none)/\Fw K C f "word"/\∀ dx,dx≠x->H dx=none->Q .non (MF H x C dx w)
theorem Fx (F:Fun K "__init__" "BoonError.__init__" (inClass kJ 0) f fd) (hv:mg "ValueError" = none):dB P w K mg base CX0 1 f fd ["self","word"] (Dn K):=by
 refine F.ok Gz (fun vs H Q E h=>?_) (fun cdv A outer s H vs Q E hr h=>?_)
 ·obtain⟨x,C,f,w,rfl,_⟩:=h
  rfl
 ·obtain⟨x,C,f,w,rfl,hx,XC,q⟩:=h
  refine⟨_,au (iG (GR rfl hv (aa (pv 0) (aa (pv 1) ao)))) (aA (Ja (pv 0) (pv 1) rfl)),?_⟩
  refine⟨_,rfl,_,rfl,x,C,f,"word",none,_,rfl,hx,XC,?_⟩
  refine⟨_,rfl,_,rfl,x,C,f,rfl,aj,XC,fun dx hd=>?_⟩
  have n:dx≠x:=fun z=>by rw[z,aj] at hd; cases hd
  rw[aR n] at hd
  exact q dx n hd
def yc (K:R7) (w:Str):Sp:=fun vs H Q _=>∃ x C f:Addr,vs=[.ref x]/\H x=some (xO x C none)/\Fw K C f "word"/\∀ dx,dx≠x->H dx=none->Q .non (MF H x C dx w)
structure Xc (P:RV) (w:Sv) (K:R7) (mg:Str->Option Value) (base:Tf) (c:Str) (C:Addr) (wd:Str):Prop where
 ex:∃ (f:Addr) (fd:Tp),dB P w K mg base CX0 2 f fd ["self"] (yc K wd)/\mg c=some (.ref C)/\Fw K C f "word"/\Binds K fd ["self"] []
def thrown (C:Addr) (w:Str) (H:Hp) (E:XK):Prop:=∀ dx H1,bc H H1->H1 dx=some (.xd [("word",.str w)])->E (.ref C) (some dx) H1
section
variable {X:Cx} {c wd:Str} {C:Addr} {p pos pos':Wi} {E:XK} {j:Nat}
def La (C:Addr) (w:Str) (E:XK):TS:=fun _ _ H=>thrown C w H E
theorem iR (D:Xc X.prog X.w X.K X.mg X.base c C wd) (hr:gB j X.A) (hc:X.calm=true) (hw:Throws X fun x C dx H=>E (.ref C) (some dx) (off H x)) (hk:3<=j:=by decide) (hg:Gl X c:=by rfl) (hdb:(c == ("__debug__" : Str))=false:=by decide) :
  PS X (.Raise (some (.Call (.Name c p) [] [] pos)) none pos') (La C wd E):=by
 obtain⟨f,fd,F,hm,XC,hb⟩:=D.ex
 intro pins s σ H De I h
 refine FT (W:=fun x C dx H=>E (.ref C) (some dx) (off H x)) hc (Ht XC F (hr.mono hk) hg hm hb JN hdb) hw pins s σ H De I fun x hx=>?_
 refine⟨x,C,f,rfl,aj,XC,fun dx n hd=>⟨rfl,x,C,f,dx,"word",rfl,MN,XC,?_⟩⟩
 rw[aR n] at hd
 refine h dx _ (fun b u e=>?_) ?_
 ·have e1:upd H x (xO x C none) b=some u:=by rw[aR (cP e hx)]; exact e
  have n1:b≠x:=cP e hx
  have n2:b≠dx:=cP e hd
  rw[off_ne n1]
  unfold MF
  rw[aR n1,aR n2,aR n1]
  exact e1
 ·rw[off_ne n]
  exact Nm n
end
theorem PJ {P:RV} {w:Sv} {K:R7} {mg:Str->Option Value} {base h:Tf} {x q wd:Str} {C fi:Addr} {st:Stmt} {bm:List Value} (o:jj K x q C fi st bm) (X:K.In h) (G:h.Ns RM mg) (hb:∀ fd,Fun K "__init__" q st fi fd->Binds K fd ["self"] []) (ok:∀ fd,Fun K "__init__" q st fi fd->dB P w K mg base CX0 2 fi fd ["self"] (yc K wd)):Xc P w K mg base x C wd:=by
 obtain⟨fd,F⟩:=o.fn
 exact⟨⟨_,_,ok _ F,o.name X G,o.Q4,hb _ F⟩⟩
abbrev pJ:Stmt:=top 2
theorem Bc:aV ["self"] ["self"] (aB (inClass pJ 0)):=⟨rfl,rfl,rfl,by decide+kernel,rfl,by decide+kernel,by decide+kernel⟩
theorem Dw {f fB CB:Addr} {mc:Value} {fd fdB:Tp} (F:Fun K "__init__" "BadText.__init__" (inClass pJ 0) f fd) (hB:mg "BoonError" = some (.ref CB)) (O:Kr K CB mc "__init__" fB)
  (FB:dB P w K mg base CX0 1 fB fdB ["self","word"] (Dn K)) (bB:Binds K fdB ["self","word"] []):dB P w K mg base CX0 2 f fd ["self"] (yc K "bad text"):=by
 refine F.ok Bc (fun vs H Q E h=>?_) (fun cdv A outer s H vs Q E hr h=>?_)
 ·obtain⟨x,C,f,rfl,_⟩:=h
  rfl
 ·obtain⟨x,C,f,rfl,hx,XC,q⟩:=h
  refine⟨_,aA (iG (zQ rfl hB O FB hr bB .nil JN (aa (pv 0) (aa aC ao)))),?_⟩
  exact⟨_,rfl,x,C,f,_,rfl,hx,XC,fun dx n hd=>q dx n hd⟩
theorem Mm:∀ n:Nat,n < 1000->n.log2 < 1920:=by decide+kernel
theorem xg {i:Int} (h0:0<=i) (h:i<=99):i.natAbs.log2 < 1920:=Mm _ (by lia)
theorem dj {l:List Nat} (h:l.length<=1000000):(S l).length<=sizeLine:=by rw[cA]; exact RP h (by decide)
theorem lH:(("+" : String):Str)=S [43]:=by decide+kernel
theorem eH:((":" : String):Str)=S [58]:=by decide+kernel
theorem rQ:(("*" : String):Str)=S [42]:=by decide+kernel
theorem BX:(("&" : String):Str)=S [38]:=by decide+kernel
theorem Py:(("|" : String):Str)=S [124]:=by decide+kernel
theorem oJ:(("(" : String):Str)=S [40]:=by decide+kernel
theorem rN:((")" : String):Str)=S [41]:=by decide+kernel
theorem sy:(("free" : String):Str)=S [102,114,101,101]:=by decide+kernel
theorem mX:(("never" : String):Str)=S [110,101,118,101,114]:=by decide+kernel
theorem Di {B:Nat}:∀ {ps:List (List Nat)},(∀ p∈ps,p.length<=B)->((ps.map S).map (·.length)).sum<=ps.length * B
 | [],_=>Sd _
 | p::r,h=>by
  have h1:=h p Rc
  have h2:=Di fun q hq=>h q (Ri _ hq)
  rw[Tv,Tv,List.sum_cons,cA,Rg,Nat.add_mul,Yz]
  lia
theorem jk {c:Nat} {ps:List (List Nat)} (h:∀ p∈ps,p.length<=100000) (l:ps.length<=20):((ps.map S).map (·.length)).sum+(ps.map S).length * (S [c]).length<=16777216:=by
 have h1:=Di h
 have h2:ps.length * 100000<=20 * 100000:=Vm _ l
 rw[Q8,cA,Rk]
 lia
mutual
theorem Iv {n:Nat} {H:Hp}:∀ (d:Nat) {v:V} {t:Tm},jg n H v t->t.dep<=d+1->(txT t).length<=70 * 7 ^ d
 | d,_,_,.free _,_=>by
  have:0 < 7 ^ d:=Vv (by decide)
  rw[txT]
  show 4<=_
  lia
 | d,_,_,.never _,_=>by
  have:0 < 7 ^ d:=Vv (by decide)
  rw[txT]
  show 5<=_
  lia
 | d,_,_,.gives (i:=i) (k:=k) _ _ _ _,_=>by
  have:0 < 7 ^ d:=Vv (by decide)
  have:=(gD i).2
  have:=(gD k.toNat).2
  rw[txT,Rf,Rg]
  lia
 | d,_,_,.sum (c:=c) (k:=k) _ _ _ _ _ _ _ _,_=>by
  have:0 < 7 ^ d:=Vv (by decide)
  have:=uL c
  have:=(gD k.toNat).2
  rw[txT,Rf,Rg]
  lia
 | d,_,_,.crowd (c:=c) (k:=k) (m:=m) _ _ _ _ _ _ _ _ _ _,_=>by
  have:0 < 7 ^ d:=Vv (by decide)
  have:=uL c
  have:=(gD k.toNat).2
  have:=(gD m.toNat).2
  rw[txT,Rf,Rg,Rf,Rg]
  lia
 | 0,_,_,.all (vs:=vs) (ts:=ts) _ _ l2 _ rl,hd=>by
  have:=BL rl l2
  rw[Tm.dep] at hd
  lia
 | d+1,_,_,.all (ts:=ts) _ _ _ l6 rl,hd=>by
  rw[Tm.dep] at hd
  have h1:=uo d rl (by lia)
  have h2:=rl.length
  have h3:=vh (e:=38) h1
  have h4:(txL ts).length=ts.length:=by rw[mR,Q8]
  have h5:(txL ts).length * (70 * 7 ^ d+1)<=6 * (70 * 7 ^ d+1):=Vm _ (by lia)
  have:0 < 7 ^ d:=Vv (by decide)
  rw[txT,Rg,Rf,Rk,X8]
  lia
 | 0,_,_,.any (vs:=vs) (ts:=ts) _ _ l2 _ rl,hd=>by
  have:=BL rl l2
  rw[Tm.dep] at hd
  lia
 | d+1,_,_,.any (ts:=ts) _ _ _ l6 rl,hd=>by
  rw[Tm.dep] at hd
  have h1:=uo d rl (by lia)
  have h2:=rl.length
  have h3:=vh (e:=124) h1
  have h4:(txL ts).length=ts.length:=by rw[mR,Q8]
  have h5:(txL ts).length * (70 * 7 ^ d+1)<=6 * (70 * 7 ^ d+1):=Vm _ (by lia)
  have:0 < 7 ^ d:=Vv (by decide)
  rw[txT,Rg,Rf,Rk,X8]
  lia
theorem uo {n:Nat} {H:Hp}:∀ (d:Nat) {vs:List V} {ts:List Tm},cM n H vs ts->tdL ts<=d+1->∀ p∈txL ts,p.length<=70 * 7 ^ d
 | d,_,_,.nil,_=>fun p hp=>by rw[txL] at hp; cases hp
 | d,_,_,.cons h r,hd=>fun p hp=>by
  rw[tdL] at hd
  rw[txL] at hp
  rcases List.mem_cons.mp hp with z | z
  ·rw[z]; exact Iv d h (by lia)
  ·exact uo d r (by lia) p z
theorem BL {n:Nat} {H:Hp}:∀ {vs:List V} {ts:List Tm},cM n H vs ts->2<=vs.length->1<=tdL ts
 | _,_,.nil,h=>by simp at h
 | _,_,.cons (t:=t) _ _,_=>by
  rw[tdL]
  have:=t.m8
  lia
end
theorem pA {n d:Nat} {H:Hp} {v:V} {t:Tm} (r:jg n H v t) (hd:t.dep<=d) (h4:d<=4):(txT t).length<=24010:=by
 have h1:=Iv 3 r (by lia)
 rw[show 70 * 7 ^ 3=24010 by decide] at h1
 exact h1
theorem wz {n d:Nat} {H:Hp} {vs:List V} {ts:List Tm} (r:cM n H vs ts) (hd:tdL ts<=d) (h4:d<=4):∀ p∈txL ts,p.length<=24010:=fun p hp=>by
 have h1:=uo 3 r (by lia) p hp
 rw[show 70 * 7 ^ 3=24010 by decide] at h1
 exact h1
theorem Bu {c:List Nat}:∀ p∈c.map dg,p.length<=2:=fun p hp=>by
 obtain⟨i,_,rfl⟩:=List.mem_map.mp hp
 exact (gD i).2
abbrev gk:Stmt:=top 43
theorem jc:aV ["_law_term_here","_law_text"] ["_law_term_here"] (aB gk):=⟨rfl,rfl,rfl,by decide+kernel,rfl,by decide+kernel,by decide+kernel⟩
theorem vM {K:R7} {H:Hp} {b D:Addr} {c:List Nat} {σ0:St} {Q:Hp->Prop} (hb:H b=some (.tup (c.map vN))) (hc:∀ i∈c,i < 12) (l:c.length<=20) (hD:H D=none) (h0:∃ u,σ0=[u])
  (q:∀ H2,bc H H2->H2 D=some (.lst (((c.map dg).map S).map V.str))->Q H2):fZ D σ0 (Itt K b) (pI 0) Ax (tCB (fun xs H Q=>∃ i,xs=[.int i]/\i.natAbs.log2 < 1920/\Q (.str (toString i)) H) (oO (Ai 0) Fz)) H Q:=by
 refine fJ (K:=K) (a:=b) (xs:=c.map vN) (fun i zs σ' H2=>(∃ u,σ'=[u])/\zs=(((c.take i).map dg).map S).map V.str/\bc H H2/\H2 D=some (.lst zs))
  ⟨h0,rfl,az hD _,aj⟩ (fun i zs σ' H2 _ h=>⟨Bl h.2.2.1 (SqT.of hb),h.2.2.2⟩) ?_ ?_
 ·rintro j zs x σ' H2 hx ⟨⟨u,rfl⟩,e1,sm,hDl⟩
  obtain⟨i,hi,rfl⟩:=Bg hx
  have hi12:=hc i (RL hi)
  refine gT ?_
  refine⟨_,rfl,(i:Int),rfl,xg (by lia) (by lia),hDl,?_,⟨_,rfl⟩,?_,aY sm hD _,aj⟩
  ·rw[e1,Q8,Q8,Q8,RN]
   exact bj (by lia)
  ·rw[e1,SJ,hi,Rx,Rx,Rx,Ej i (by lia)]
   rfl
 ·rintro zs σ' H2 ⟨_,e1,sm,hDl⟩
  rw[Q8,R6] at e1
  exact q H2 sm (by rw[hDl,e1])
def vA (d:Nat):Sp:=fun vs H Q _=>∃ (v:V) (n:Nat) (t:Tm),vs=[v]/\jg n H v t/\t.dep<=d/\n<=12/\d<=4/\∀ H',bc H H'->Q (.str (S (txT t))) H'
theorem Ft {ps:List Str} {k:Nat}:dB P w K mg base CX0 k f fd ps (vA 0):=by
 have no:∀ vs H Q E,¬ vA 0 vs H Q E:=fun vs H Q E h=>by
  obtain⟨v,n,t,_,_,h1,_⟩:=h
  have:=t.m8
  lia
 exact⟨fun vs H Q E h=>absurd h (no vs H Q E),fun A outer s H args us vs Q E _ _ _ _ h=>absurd h (no vs H Q E)⟩
theorem wg {K:R7} {n d:Nat} {H:Hp} {b D:Addr} {us:List V} {ts:List Tm} {σ0:St} {Q:Hp->Prop} (hb:H b=some (.tup us)) (rl:cM n H us ts) (hd:tdL ts<=d) (hn:n<=12) (h4:d<=4) (l:us.length<=6) (hD:H D=none) (h0:∃ u,σ0=[u])
  (q:∀ H2,bc H H2->H2 D=some (.lst (((txL ts).map S).map V.str))->Q H2):fZ D σ0 (Itt K b) (pI 0) Ax (yd (vA d) [] E0 (oO (Ai 0) Fz)) H Q:=by
 have el:=rl.length
 refine fJ (K:=K) (a:=b) (xs:=us) (fun i zs σ' H2=>(∃ u,σ'=[u])/\zs=(((ts.take i).map txT).map S).map V.str/\bc H H2/\H2 D=some (.lst zs))
  ⟨h0,rfl,az hD _,aj⟩ (fun i zs σ' H2 _ h=>⟨Bl h.2.2.1 (SqT.of hb),h.2.2.2⟩) ?_ ?_
 ·rintro j zs x σ' H2 hx ⟨⟨u,rfl⟩,e1,sm,hDl⟩
  obtain⟨t,ht,rt⟩:=rl.get hx
  have hj:j < us.length:=(List.getElem?_eq_some_iff.mp hx).1
  refine gT ?_
  refine⟨_,rfl,x,n,t,rfl,rt.mono sm,RP (qI ht) hd,hn,h4,fun H3 s3=>⟨s3 _ _ hDl,?_,⟨_,rfl⟩,?_,aY (sm.trans s3) hD _,aj⟩⟩
  ·rw[e1,Q8,Q8,Q8,RN]
   exact bj (by lia)
  ·rw[e1,SJ,ht,Rx,Rx,Rx]
   rfl
 ·rintro zs σ' H2 ⟨_,e1,sm,hDl⟩
  rw[el,R6,← mR] at e1
  exact q H2 sm (by rw[hDl,e1])
theorem fH {a b:List Nat} (h:a.length+b.length<=1000000):(S a).length+(S b).length<=sizeLine:=by
 rw[cA,cA]
 exact RP h (by decide)
theorem dD {d k:Nat} (F:Fun K "_law_term_text" "_law_term_text" gk f fd) (B:Bt mg)
  (D_law_term_text:Df P w K mg base "_law_term_text" k ["_law_term_here"] (vA d)):dB P w K mg base CX0 (k+1) f fd ["_law_term_here"] (vA (d+1)):=by
 refine F.ok jc (fun vs H Q E h=>?_) (fun cdv A outer s H vs Q E hr h=>?_)
 ·obtain⟨v,n,t,rfl,_⟩:=h
  rfl
 ·obtain⟨v,n,t,rfl,rt,hd,hn,h4,q⟩:=h
  refine⟨_,(au (bu (aD (r:=rIn K false) fQ (aQ (r:=jd K) bH (pv 0) aq (fun _ _=>rfl)) (bh (aa aC (aa aC ao))) rfl) (aA (aJ (aL aP (aL aP aC (gA Sq Yr Yq wN (aQ (r:=d8 K) aO (cj (aa aC (aa aC ao))) (aX (r:=Cp) jC rfl B.int_ jR (aa (cR cD (aQ (r:=jd K) bH (pv 0) aq (fun _ _=>rfl)) aC (aK _)) ao)) (fun _ _=>rfl)) (aa (eG (L:=["_law_part"]) (F:=[]) (cap:=[]) rfl (bU rfl rfl (by kernel_rfl)) (iZ (aQ (r:=jd K) bH (pv 0) aq (fun _ _=>rfl))) (fun _ _ _ _ _=>(aN (i:=0) (bM (by decide+kernel)) rfl (RJ rfl))) (fun _ _ _ _ _=>cF) (fun _ _ _ _ _=>(bF D_law_term_text hr (aa (pv 0) ao)))) ao))) aC))) aM)
 (au (bu (aD cD (aQ (r:=jd K) bH (pv 0) aq (fun _ _=>rfl)) aC (aK _)) (aA (aJ (aL aP (aL aP (aX dJ rfl B.str_ n6 (aa (aQ (r:=jd K) bH (pv 0) aq (fun _ _=>rfl)) ao)) aC) (aX dJ rfl B.str_ n6 (aa (aQ (r:=jd K) bH (pv 0) aq (fun _ _=>rfl)) ao))))) aM)
 (au (bu (aD (r:=rIn K false) fQ (aQ (r:=jd K) bH (pv 0) aq (fun _ _=>rfl)) (bh (aa aC (aa aC ao))) rfl) (aA (aJ (aQ (r:=jd K) bH (pv 0) aq (fun _ _=>rfl)))) aM)
 (au (aU (i:=1) jc.nd rfl (RJ rfl) (aL aP (aL aP (gA Sq Yr Yq wN aC (aa (eG (L:=["_law_one"]) (F:=[]) (cap:=[]) rfl (bU rfl rfl (by kernel_rfl)) (iZ (aQ (r:=jd K) bH (pv 0) aq (fun _ _=>rfl))) (fun _ _ _ _ _=>(aN (i:=0) (bM (by decide+kernel)) rfl (RJ rfl))) (fun _ _ _ _ _=>cF) (fun _ _ _ _ _=>(aX dJ rfl B.str_ n6 (aa (pv 0) ao)))) ao)) aC) (aX dJ rfl B.str_ n6 (aa (aQ (r:=jd K) bH (pv 0) aq (fun _ _=>rfl)) ao))))
 (aA (aJ (gR (aD cD (aQ (r:=jd K) bH (pv 0) aq (fun _ _=>rfl)) aC (aK _)) (pv 1) (aL aP (aL aP (aX dJ rfl B.str_ n6 (aa (aQ (r:=jd K) bH (pv 0) aq (fun _ _=>rfl)) ao)) aC) (pv 1))))))))),?_⟩
  have ln:=pA rt hd h4
  cases rt with
  | @free a ha =>
   refine⟨_,rfl,a,_,_,_,rfl,rfl,SqT.of ha,aF (k:=0) rfl,small (by show 2<=1000; decide),fun p1 h1=>⟨p1,_,rfl,.inr (SqT.of aj),rfl,rfl,_,rfl,jf (by decide+kernel) ?_⟩⟩
   generalize eH1:upd H p1 _=H1
   obtain⟨g1,_⟩:=aH eH1 h1
   refine⟨_,rfl,a,_,_,_,rfl,rfl,SqT.of (g1 _ _ ha),aF (k:=0) rfl,rfl,_,rfl,dU (bZ (by decide)) ?_⟩
   refine⟨_,rfl,a,_,_,_,rfl,rfl,SqT.of (g1 _ _ ha),aF (k:=0) rfl,small (by show 2<=1000; decide),fun p2 h2=>⟨p2,_,rfl,.inr (SqT.of aj),rfl,rfl,_,rfl,Ba (by decide+kernel) ?_⟩⟩
   generalize eH2:upd H1 p2 _=H2
   obtain⟨g2,_⟩:=aH eH2 h2
   have q':=q H2 (g1.trans g2)
   rw[txT,← sy] at q'
   exact⟨_,rfl,a,_,_,_,rfl,rfl,SqT.of (g2 _ _ (g1 _ _ ha)),aF (k:=0) rfl,q'⟩
  | @never a ha =>
   refine⟨_,rfl,a,_,_,_,rfl,rfl,SqT.of ha,aF (k:=0) rfl,small (by show 2<=1000; decide),fun p1 h1=>⟨p1,_,rfl,.inr (SqT.of aj),rfl,rfl,_,rfl,jf (by decide+kernel) ?_⟩⟩
   generalize eH1:upd H p1 _=H1
   obtain⟨g1,_⟩:=aH eH1 h1
   refine⟨_,rfl,a,_,_,_,rfl,rfl,SqT.of (g1 _ _ ha),aF (k:=0) rfl,rfl,_,rfl,dU (bZ (by decide)) ?_⟩
   refine⟨_,rfl,a,_,_,_,rfl,rfl,SqT.of (g1 _ _ ha),aF (k:=0) rfl,small (by show 2<=1000; decide),fun p2 h2=>⟨p2,_,rfl,.inr (SqT.of aj),rfl,rfl,_,rfl,Ba (by decide+kernel) ?_⟩⟩
   generalize eH2:upd H1 p2 _=H2
   obtain⟨g2,_⟩:=aH eH2 h2
   have q':=q H2 (g1.trans g2)
   rw[txT,← mX] at q'
   exact⟨_,rfl,a,_,_,_,rfl,rfl,SqT.of (g2 _ _ (g1 _ _ ha)),aF (k:=0) rfl,q'⟩
  | @gives a i kk ha hi k1 k9 =>
   have e1:((toString (i:Int):String):Str)=S (dg i):=Ej i (by lia)
   have e2:=qU (i:=kk) (by lia) (by lia)
   have l1:=(gD i).2
   have l2:=(gD kk.toNat).2
   refine⟨_,rfl,a,_,_,_,rfl,rfl,SqT.of ha,aF (k:=0) rfl,small (by show 2<=1000; decide),fun p1 h1=>⟨p1,_,rfl,.inr (SqT.of aj),rfl,rfl,_,rfl,jf (by decide+kernel) ?_⟩⟩
   generalize eH1:upd H p1 _=H1
   obtain⟨g1,_⟩:=aH eH1 h1
   refine⟨_,rfl,a,_,_,_,rfl,rfl,SqT.of (g1 _ _ ha),aF (k:=0) rfl,rfl,_,rfl,lY rfl ?_⟩
   refine⟨_,rfl,a,_,_,_,rfl,rfl,SqT.of (g1 _ _ ha),aF (k:=1) rfl,(i:Int),rfl,xg (by lia) (by lia),_,_,rfl,rfl,?_,_,rfl,a,_,_,_,rfl,rfl,SqT.of (g1 _ _ ha),aF (k:=2) rfl,kk,rfl,xg (by lia) (by lia),_,_,rfl,rfl,?_,?_⟩
   ·rw[e1,eH]
    exact fH (by rw[Rk]; lia)
   ·rw[e1,e2,eH,eE]
    exact fH (by rw[Rf,Rk]; lia)
   ·rw[e1,e2,eH,eE,eE,RG]
    have q':=q H1 g1
    rw[txT] at q'
    exact q'
  | @sum a b c kk ha hb hc hp l20 l2 k1 k99 =>
   have e2:=qU (i:=kk) (by lia) (by lia)
   have l1:=uL c
   have l2:=(gD kk.toNat).2
   refine⟨_,rfl,a,_,_,_,rfl,rfl,SqT.of ha,aF (k:=0) rfl,small (by show 2<=1000; decide),fun p1 h1=>⟨p1,_,rfl,.inr (SqT.of aj),rfl,rfl,_,rfl,jf (by decide+kernel) ?_⟩⟩
   generalize eH1:upd H p1 _=H1
   obtain⟨g1,_⟩:=aH eH1 h1
   refine⟨_,rfl,a,_,_,_,rfl,rfl,SqT.of (g1 _ _ ha),aF (k:=0) rfl,rfl,_,rfl,dU (bZ (by decide)) ?_⟩
   refine⟨_,rfl,a,_,_,_,rfl,rfl,SqT.of (g1 _ _ ha),aF (k:=0) rfl,small (by show 2<=1000; decide),fun p2 h2=>⟨p2,_,rfl,.inr (SqT.of aj),rfl,rfl,_,rfl,jf (by decide+kernel) ?_⟩⟩
   generalize eH2:upd H1 p2 _=H2
   obtain⟨g2,_⟩:=aH eH2 h2
   have g:=g1.trans g2
   refine⟨rfl,_,rfl,a,_,_,_,rfl,rfl,SqT.of (g _ _ ha),aF (k:=1) rfl,b,rfl,⟨_,SqT.of (g _ _ hb)⟩,fun D hD=>vM (g _ _ hb) (fun i hi=>Rm (hc i hi) hn) l20 hD ⟨_,rfl⟩ fun H3 s3 eD=>?_⟩
   refine⟨_,D,(c.map dg).map S,rfl,rfl,SqL.of eD,?_,?_⟩
   ·rw[lH]
    exact jk (fun p hp=>RP (Bu p hp) (by decide)) (by rw[Q8]; exact l20)
   ·rw[lH,qO]
    have g3:=g.trans s3
    refine⟨_,_,rfl,rfl,?_,_,rfl,a,_,_,_,rfl,rfl,SqT.of (g3 _ _ ha),aF (k:=2) rfl,kk,rfl,xg (by lia) (by lia),_,_,rfl,rfl,?_,?_⟩
    ·rw[eH]
     exact fH (by rw[Rk]; show (txC c).length+1<=_; lia)
    ·rw[eH,e2,eE]
     exact fH (by rw[Rf,Rk]; show (txC c).length+1+_<=_; lia)
    ·refine⟨_,rfl,a,_,_,_,rfl,rfl,SqT.of (g3 _ _ ha),aF (k:=0) rfl,rfl,_,rfl,lY rfl ⟨_,rfl,?_⟩⟩
     rw[eH,e2,eE,eE,RG]
     have q':=q H3 g3
     rw[txT] at q'
     exact q'
  | @crowd a b c kk mm ha hb hc hp l20 l1 k1 k9 m1 m12 =>
   have e2:=qU (i:=kk) (by lia) (by lia)
   have e3:=qU (i:=mm) (by lia) (by lia)
   have l1:=uL c
   have l2:=(gD kk.toNat).2
   have l3:=(gD mm.toNat).2
   refine⟨_,rfl,a,_,_,_,rfl,rfl,SqT.of ha,aF (k:=0) rfl,small (by show 2<=1000; decide),fun p1 h1=>⟨p1,_,rfl,.inr (SqT.of aj),rfl,rfl,_,rfl,jf (by decide+kernel) ?_⟩⟩
   generalize eH1:upd H p1 _=H1
   obtain⟨g1,_⟩:=aH eH1 h1
   refine⟨_,rfl,a,_,_,_,rfl,rfl,SqT.of (g1 _ _ ha),aF (k:=0) rfl,rfl,_,rfl,dU (bZ (by decide)) ?_⟩
   refine⟨_,rfl,a,_,_,_,rfl,rfl,SqT.of (g1 _ _ ha),aF (k:=0) rfl,small (by show 2<=1000; decide),fun p2 h2=>⟨p2,_,rfl,.inr (SqT.of aj),rfl,rfl,_,rfl,jf (by decide+kernel) ?_⟩⟩
   generalize eH2:upd H1 p2 _=H2
   obtain⟨g2,_⟩:=aH eH2 h2
   have g:=g1.trans g2
   refine⟨rfl,_,rfl,a,_,_,_,rfl,rfl,SqT.of (g _ _ ha),aF (k:=1) rfl,b,rfl,⟨_,SqT.of (g _ _ hb)⟩,fun D hD=>vM (g _ _ hb) (fun i hi=>Rm (hc i hi) hn) l20 hD ⟨_,rfl⟩ fun H3 s3 eD=>?_⟩
   refine⟨_,D,(c.map dg).map S,rfl,rfl,SqL.of eD,?_,?_⟩
   ·rw[lH]
    exact jk (fun p hp=>RP (Bu p hp) (by decide)) (by rw[Q8]; exact l20)
   ·rw[lH,qO]
    have g3:=g.trans s3
    refine⟨_,_,rfl,rfl,?_,_,rfl,a,_,_,_,rfl,rfl,SqT.of (g3 _ _ ha),aF (k:=2) rfl,kk,rfl,xg (by lia) (by lia),_,_,rfl,rfl,?_,?_⟩
    ·rw[eH]
     exact fH (by rw[Rk]; show (txC c).length+1<=_; lia)
    ·rw[eH,e2,eE]
     exact fH (by rw[Rf,Rk]; show (txC c).length+1+_<=_; lia)
    ·refine⟨_,rfl,a,_,_,_,rfl,rfl,SqT.of (g3 _ _ ha),aF (k:=0) rfl,rfl,_,rfl,dU (bZ (by decide)) ?_⟩
     refine⟨_,rfl,a,_,_,_,rfl,rfl,SqT.of (g3 _ _ ha),aF (k:=3) rfl,mm,rfl,xg (by lia) (by lia),_,_,rfl,rfl,?_,_,rfl,_,_,rfl,rfl,?_,?_⟩
     ·rw[e3,rQ]
      exact fH (by rw[Rk]; lia)
     ·rw[e3,rQ,eH,e2,eE,eE,eE]
      exact fH (by rw[Rf,Rf,Rf,Rk,Rk]; show _+((txC c).length+1+_)<=_; lia)
     ·rw[e3,rQ,eH,e2,eE,eE,eE,eE,RG,RG]
      have q':=q H3 g3
      rw[txT] at q'
      exact q'
  | @all a b us ts ha hb l2 l6 rl =>
   rw[txT,Rg,Rf] at ln
   have el:=rl.length
   have hd':tdL ts<=d:=by rw[Tm.dep] at hd; lia
   refine⟨_,rfl,a,_,_,_,rfl,rfl,SqT.of ha,aF (k:=0) rfl,small (by show 2<=1000; decide),fun p1 h1=>⟨p1,_,rfl,.inr (SqT.of aj),rfl,rfl,_,rfl,Ba (by decide+kernel) ?_⟩⟩
   generalize eH1:upd H p1 _=H1
   obtain⟨g1,_⟩:=aH eH1 h1
   refine⟨small (by show 2<=1000; decide),fun p2 h2=>?_⟩
   generalize eH2:upd H1 p2 _=H2
   obtain⟨g2,e2⟩:=aH eH2 h2
   have g:=g1.trans g2
   refine⟨_,rfl,a,_,_,_,rfl,rfl,SqT.of (g _ _ ha),aF (k:=0) rfl,rfl,.inr ⟨_,rfl,p2,_,_,_,rfl,rfl,SqL.of e2,(by decide+kernel:atI [V.str "|",V.str "&"] (if decide (V.str "all" = V.str "all") then 1 else 0)=some (V.str "&")),?_⟩⟩
   refine⟨rfl,_,rfl,a,_,_,_,rfl,rfl,SqT.of (g _ _ ha),aF (k:=1) rfl,b,rfl,⟨_,SqT.of (g _ _ hb)⟩,fun D hD=>wg (g _ _ hb) (rl.mono g) hd' hn (by lia) l6 hD ⟨_,rfl⟩ fun H3 s3 eD=>?_⟩
   refine⟨_,D,(txL ts).map S,rfl,rfl,SqL.of eD,?_,?_⟩
   ·rw[BX]
    exact jk (fun p hp=>RP (wz rl hd' (by lia) p hp) (by decide)) (by rw[mR,Q8]; lia)
   ·rw[BX,qO]
    refine⟨_,_,rfl,rfl,?_,_,_,rfl,rfl,?_,?_⟩
    ·rw[oJ]
     exact fH (by rw[Rk]; lia)
    ·rw[oJ,rN,eE]
     exact fH (by rw[Rf,Rk,Rk]; lia)
    ·rw[oJ,rN,eE,eE]
     have q':=q H3 (g.trans s3)
     rw[txT] at q'
     exact q'
  | @any a b us ts ha hb l2 l6 rl =>
   rw[txT,Rg,Rf] at ln
   have el:=rl.length
   have hd':tdL ts<=d:=by rw[Tm.dep] at hd; lia
   refine⟨_,rfl,a,_,_,_,rfl,rfl,SqT.of ha,aF (k:=0) rfl,small (by show 2<=1000; decide),fun p1 h1=>⟨p1,_,rfl,.inr (SqT.of aj),rfl,rfl,_,rfl,Ba (by decide+kernel) ?_⟩⟩
   generalize eH1:upd H p1 _=H1
   obtain⟨g1,_⟩:=aH eH1 h1
   refine⟨small (by show 2<=1000; decide),fun p2 h2=>?_⟩
   generalize eH2:upd H1 p2 _=H2
   obtain⟨g2,e2⟩:=aH eH2 h2
   have g:=g1.trans g2
   refine⟨_,rfl,a,_,_,_,rfl,rfl,SqT.of (g _ _ ha),aF (k:=0) rfl,rfl,.inr ⟨_,rfl,p2,_,_,_,rfl,rfl,SqL.of e2,(by decide+kernel:atI [V.str "|",V.str "&"] (if decide (V.str "any" = V.str "all") then 1 else 0)=some (V.str "|")),?_⟩⟩
   refine⟨rfl,_,rfl,a,_,_,_,rfl,rfl,SqT.of (g _ _ ha),aF (k:=1) rfl,b,rfl,⟨_,SqT.of (g _ _ hb)⟩,fun D hD=>wg (g _ _ hb) (rl.mono g) hd' hn (by lia) l6 hD ⟨_,rfl⟩ fun H3 s3 eD=>?_⟩
   refine⟨_,D,(txL ts).map S,rfl,rfl,SqL.of eD,?_,?_⟩
   ·rw[Py]
    exact jk (fun p hp=>RP (wz rl hd' (by lia) p hp) (by decide)) (by rw[mR,Q8]; lia)
   ·rw[Py,qO]
    refine⟨_,_,rfl,rfl,?_,_,_,rfl,rfl,?_,?_⟩
    ·rw[oJ]
     exact fH (by rw[Rk]; lia)
    ·rw[oJ,rN,eE]
     exact fH (by rw[Rf,Rk,Rk]; lia)
    ·rw[oJ,rN,eE,eE]
     have q':=q H3 (g.trans s3)
     rw[txT] at q'
     exact q'
def rgT (x:Int × Tm):List Nat:=dg x.1.toNat++63::txT x.2
def txP (p:Pl):List Nat:=jn 44 (p.map rgT)
theorem zY:(("?" : String):Str)=S [63]:=by decide+kernel
theorem mK:(("," : String):Str)=S [44]:=by decide+kernel
theorem Jb {n:Nat} {H:Hp} {v:V} {k:Int} {t:Tm} (r:jg n H v t) (hd:t.dep<=4):(rgT (k,t)).length<=24013:=by
 have h1:=pA r hd (Rh _)
 have h2:=(gD k.toNat).2
 show (dg k.toNat++63::txT t).length<=_
 rw[Rf,Rg]
 lia
theorem dN.mem {n:Nat} {H:Hp}:∀ {vs:List V} {p:Pl},dN n H vs p->∀ x∈p,∃ v,jg n H v x.2
 | _,_,.nil,x,h=>by cases h
 | _,_,.cons _ t r,x,h=>by
  rcases List.mem_cons.mp h with rfl | h
  ·exact⟨_,t⟩
  ·exact dN.mem r x h
theorem CP {n:Nat} {H:Hp} {vs:List V} {p:Pl} (ok:okP p) (r:dN n H vs p):∀ q∈p.map rgT,q.length<=24013:=fun q hq=>by
 obtain⟨x,hx,rfl⟩:=List.mem_map.mp hq
 obtain⟨v,rv⟩:=r.mem x hx
 exact Jb rv (ok.2.2.2 x hx).2.2
theorem Jw {n:Nat} {H:Hp} {vs:List V} {p:Pl} (ok:okP p) (r:dN n H vs p):(txP p).length<=216126:=by
 have h1:=vh (e:=44) (CP ok r)
 rw[Q8] at h1
 have h2:p.length * (24013+1)<=9 * (24013+1):=Vm _ ok.2.1
 show (jn 44 (p.map rgT)).length<=_
 lia
def Qp:Sp:=fun vs H Q _=>∃ (a:Addr) (p:Pl) (n:Nat),vs=[.ref a]/\Qf n H a p/\n<=12/\∀ H',bc H H'->Q (.str (S (txP p))) H'
abbrev eF:Stmt:=top 44
theorem mj:aV ["_law_pledge_here"] ["_law_pledge_here"] (aB eF):=⟨rfl,rfl,rfl,by decide+kernel,rfl,by decide+kernel,by decide+kernel⟩
theorem lZ {k:Nat} (F:Fun K "_law_pledge_text" "_law_pledge_text" eF f fd) (B:Bt mg)
  (D_law_term_text:Df P w K mg base "_law_term_text" k ["_law_term_here"] (vA 4)):dB P w K mg base CX0 (k+1) f fd ["_law_pledge_here"] Qp:=by
 refine F.ok mj (fun vs H Q E h=>?_) (fun cdv A outer s H vs Q E hr h=>?_)
 ·obtain⟨a,p,n,rfl,_⟩:=h
  rfl
 ·obtain⟨a,p,n,rfl,⟨ok,us,ha,rr⟩,hn,q⟩:=h
  refine⟨_,(aA (aJ (gA Sq Yr Yq wN aC (aa (eG (L:=["_law_step","_law_term_here"]) (F:=[]) (cap:=[]) rfl (bU rfl rfl (by kernel_rfl)) (iZ (pv 0)) (fun _ _ _ _ _=>(f9 (K:=K) 2 rfl rfl (bz (aN (i:=0) (bM (by decide+kernel)) rfl (RJ rfl)) (bz (aN (i:=1) (bM (by decide+kernel)) rfl (RJ rfl)) fY)))) (fun _ _ _ _ _=>cF) (fun _ _ _ _ _=>(aL aP (aL aP (aX dJ rfl B.str_ n6 (aa (pv 0) ao)) aC) (bF D_law_term_text hr (aa (pv 1) ao))))) ao)))),?_⟩
  have el:=rr.length
  have l9:=ok.2.1
  refine⟨rfl,_,rfl,a,rfl,⟨_,SqT.of ha⟩,fun D hD=>fJ (K:=K) (a:=a) (xs:=us) (fun i zs σ' H2=>(∃ u1 u2,σ'=[u1,u2])/\zs=(((p.take i).map rgT).map S).map V.str/\bc H H2/\H2 D=some (.lst zs))
   ⟨⟨_,_,rfl⟩,rfl,az hD _,aj⟩ (fun i zs σ' H2 _ h=>⟨Bl h.2.2.1 (SqT.of ha),h.2.2.2⟩) ?_ ?_⟩
  ·rintro j zs x σ' H2 hx ⟨⟨u1,u2,rfl⟩,e1,sm,hDl⟩
   obtain⟨r,kk,u,t,rfl,hr0,rt,hp⟩:=rr.get hx
   obtain⟨b1,b2,b3⟩:=ok.2.2.2 _ (RL hp)
   have hj:j < us.length:=(List.getElem?_eq_some_iff.mp hx).1
   have lt:=pA rt b3 (Rh _)
   have lk:=(gD kk.toNat).2
   have ek:=qU (i:=kk) (by lia) (by lia)
   refine⟨r,_,rfl,SqT.of (sm _ _ hr0),rfl,_,_,rfl,_,_,rfl,rfl,tT ?_⟩
   refine⟨_,rfl,kk,rfl,xg (by lia) (by lia),_,_,rfl,rfl,?_,_,rfl,u,n,t,rfl,rt.mono sm,b3,hn,Rh _,fun H3 s3=>⟨_,_,rfl,rfl,?_,s3 _ _ hDl,?_,⟨_,_,rfl⟩,?_,aY (sm.trans s3) hD _,aj⟩⟩
   ·rw[ek,zY]
    exact fH (by rw[Rk]; lia)
   ·rw[ek,zY,eE]
    exact fH (by rw[Rf,Rk]; lia)
   ·rw[e1,Q8,Q8,Q8,RN]
    exact bj (by lia)
   ·rw[e1,ek,zY,eE,eE,SJ,hp,Rx,Rx,Rx,RG]
    rfl
  ·rintro zs σ' H2 ⟨_,e1,sm,hDl⟩
   rw[el,R6] at e1
   refine⟨_,D,(p.map rgT).map S,rfl,rfl,SqL.of (by rw[hDl,e1]),?_,?_⟩
   ·rw[mK]
    exact jk (fun q hq=>RP (CP ok rr q hq) (by decide)) (by rw[Q8]; lia)
   ·rw[mK,qO]
    exact q H2 sm
abbrev iu:Stmt:=top 25
abbrev jA:Stmt:=top 26
theorem rA:aV ["text"] ["text"] (aB iu):=⟨rfl,rfl,rfl,by decide+kernel,rfl,by decide+kernel,by decide+kernel⟩
theorem tG:aV ["text"] ["text"] (aB jA):=⟨rfl,rfl,rfl,by decide+kernel,rfl,by decide+kernel,by decide+kernel⟩
theorem jK:(("0" : String):Str)=S [48]:=by decide+kernel
theorem Jm {x:Nat}:x∈rF ↔ 48<=x/\x<=57:=by
 constructor
 ·intro h
  simp only[rF,Tu,T7,or_false] at h
  rcases h with rfl|rfl|rfl|rfl|rfl|rfl|rfl|rfl|rfl|rfl<;>decide
 ·rintro⟨h1,h2⟩
  have:x=48∨x=49∨x=50∨x=51∨x=52∨x=53∨x=54∨x=55∨x=56∨x=57:=by lia
  rcases this with rfl | rfl | rfl | rfl | rfl | rfl | rfl | rfl | rfl | rfl <;> decide
theorem G6 {l:List Nat} (h:∀ x∈l,x < 128):Ov (S l):=by
 unfold Ov
 rw[← Array.all_toList]
 exact List.all_eq_true.mpr fun x hx=>decide_eq_true (h x hx)
theorem nT (l:List Nat):(S l).cps.size=l.length:=by simp
theorem Om {l:List Nat} {i:Nat} (h:i < l.length):sgn (S l) i = .str (S [l[i]]):=by
 have:(S l).cps.getD i 0=l[i]:=by simp [Array.getD,h]
 unfold sgn
 rw[this]
theorem Dz {l:List Nat} (h:∀ x∈l,x∈rF) (h1:1<=l.length) (h2:l.length<=9):Yx (S l)=some ((Fi l:Nat):Int):=by
 have:=PySem.intText_digits (x:=S l) (fun c hc=>Jm.mp (h c (by simpa using hc))) (fun z=>by
  have e:l=[]:=(by simpa using z)
  rw[e] at h1
  exact absurd h1 (by decide)) (by rw[cA]; lia)
 rw[this]
 congr 2
 show PySem.NumText.digitsVal l=Fi l
 unfold PySem.NumText.digitsVal Fi
 congr 1
 funext a b
 lia
def Tx (l:List Nat):Prop:=(∀ x∈l,x < 128)/\l.length<=90000
def rJ {β:Type} (C:Addr) (f:List Nat->Option β) (R:Hp->V->β->Prop):Sp:=fun vs H Q E=>∃ l:List Nat,vs=[.str (S l)]/\Tx l/\(∀ b,f l=some b->∀ v H',bc H H'->R H' v b->Q v H')/\(f l=none->thrown C "bad text" H E)
theorem cV {C:Addr} {w:Str} {H H1:Hp} {E:XK} (s:bc H H1) (h:thrown C w H E):thrown C w H1 E:=fun dx H2 s2 e=>h dx H2 (s.trans s2) e
def KR (_:Hp) (v:V) (n:Nat):Prop:=v = .int (n:Int)
def rCr (H:Hp) (v:V) (c:List Nat):Prop:=∃ p:Addr,v = .ref p/\H p=some (.tup (c.map vN))
theorem JG {l:List Nat} (h:¬ (1<=l.length/\l.length<=9)):cZ l=none:=if_neg fun z=>h z.1
theorem JD (l:List Nat):isNum (.int ((S l).length:Int)) 1 9=decide (1<=l.length/\l.length<=9):=by
 rw[cA,Td]
 unfold isNum
 rw[Rp,decide_eq_true_eq,decide_eq_true_eq,decide_eq_true_eq]
 lia
theorem yE (l:List Nat):(l.map fun x=>decide (x∈rF)).all (fun b=>b)=decide (∀ x∈l,x∈rF):=by
 rw[Xj,Td,List.all_eq_true,decide_eq_true_eq]
 exact⟨fun h x hx=>of_decide_eq_true (h x hx),fun h x hx=>decide_eq_true (h x hx)⟩
theorem rC {f C:Addr} {fd:Tp} {t1 t2:ZK} {z:Str} (F:Fun K "read_number" "read_number" iu f fd) (B:Bt mg) (c_MOST_FIGURES:mg "MOST_FIGURES" = some (.int 9 t1)) (c_FIGURES:mg "FIGURES" = some (.str z t2)) (hz:z=S rF)
  (D_is_number:Df P w K mg base "is_number" 1 ["thing","low","high"] kZ) (X_BadText:Xc P w K mg base "BadText" C "bad text"):dB P w K mg base (XL P w) 4 f fd ["text"] (rJ C cZ KR):=by
 refine F.okX rA (fun vs H Q E h=>?_) (fun cdv A outer s H vs Q E hr h=>?_)
 ·obtain⟨l,rfl,_⟩:=h
  rfl
 ·obtain⟨l,rfl,⟨ha,hl⟩,q,hbad⟩:=h
  refine⟨_,(au (bu (PW.pt (dW (dH (dq (bF D_is_number hr (aa (aG dM rfl B.len_ bW (aa (pv 0) ao)) (aa aq (aa (lD c_MOST_FIGURES) ao)))))) (dY (dH (dq (aG (r:=El K) (lE rfl) rfl B.all_ zg (aa (eG (L:=["sign"]) (F:=[]) (cap:=[]) rfl (bU rfl rfl (by kernel_rfl)) (Ef (pv 0)) (fun _ _ _ _ _=>(aN (i:=0) (bM (by decide+kernel)) rfl (RJ rfl))) (fun _ _ _ _ _=>cF) (fun _ _ _ _ _=>(cR lu (pv 0) (Pz c_FIGURES) rfl))) ao))))))) (aA (iR X_BadText hr rfl gj)) aM)
 (au (bu (PW.pt (nU (aD cD (aQ (r:=K8) yN (pv 0) aq (fun _ _=>rfl)) aC (aK _)) (ji (aD uG (aG dM rfl B.len_ bW (aa (pv 0) ao)) aq (aK _))))) (aA (iR X_BadText hr rfl gj)) aM)
 (aA (aJ (aX (r:=Jj) vp rfl B.int_ jR (aa (pv 0) ao)))))),?_⟩
  refine⟨_,rfl,_,rfl,dj (by lia),.int ((S l).length:Int),.int ((S l).length:Int),1,9,rfl,.int _,rfl,_,rfl,?_⟩
  rw[JD]
  by_cases hlen:1<=l.length/\l.length<=9
  ·rw[decide_eq_true hlen]
   refine dF ⟨_,rfl,S l,rfl,G6 ha,fun D hD=>yO (x:=S l) (fun i zs σ' H2=>(∃ u,σ'=[u])/\zs=((l.take i).map fun x=>decide (x∈rF)).map V.bl/\bc H H2/\H2 D=some (.lst zs))
    ⟨⟨_,rfl⟩,rfl,az hD _,aj⟩ (fun i zs σ' H2 _ h=>h.2.2.2) ?_ ?_⟩
   ·rintro i zs σ' H2 hi ⟨⟨u,rfl⟩,e1,sm,hDl⟩
    rw[nT] at hi
    rw[Om hi]
    refine gT ?_
    refine⟨_,rfl,S [l[i]],z,rfl,rfl,hDl,?_,⟨_,rfl⟩,?_,aY sm hD _,aj⟩
    ·rw[e1,Q8,Q8,RN]
     exact bj (by lia)
    ·rw[e1,hz,yF,SJ,Rn hi,Rx,Rx]
     rfl
   ·rintro zs σ' H2 ⟨_,e1,sm,hDl⟩
    rw[nT,R6] at e1
    refine⟨D,_,rfl,SqL.of (by rw[hDl,e1]),_,rfl,?_⟩
    rw[yE]
    by_cases hf:∀ x∈l,x∈rF
    ·rw[decide_eq_true hf]
     refine dF ?_
     obtain⟨c,hc⟩:∃ c,l[0]? = some c:=⟨_,Rn (by lia)⟩
     refine⟨_,rfl,S l,0,c,rfl,rfl,dj (by lia),iI (xs:=l) hc,rfl,_,rfl,?_⟩
     have fin:¬ (l.head? = some 48/\1 < l.length)->∀ H3,bc H H3->Yx (S l)=some (Fi l:Int)/\(S l).length<=640/\Q (.int (Fi l:Int)) H3:=fun h0 H3 s3=>⟨Dz hf hlen.1 hlen.2,by rw[cA]; lia,q (Fi l) (if_pos ⟨hlen,hf,h0⟩) _ H3 s3 rfl⟩
     refine jG (fun cc=>?_) (fun cc=>?_)
     ·have e0:l.head? = some 48:=by
       have:=of_decide_eq_true cc
       rw[jK] at this
       have e:=oG (V.str.inj this)
       rw[WL,hc,(TJ e).1]
      refine⟨_,rfl,_,rfl,dj (by lia),_,_,rfl,rfl,_,rfl,?_⟩
      refine jG (fun c1=>?_) (fun c1=>?_)
      ·have c1:((S l).length:Int) > 1:=of_decide_eq_true c1
       rw[cA] at c1
       exact cV sm (hbad (if_neg fun y=>y.2.2 ⟨e0,by lia⟩))
      ·have c1:¬ ((S l).length:Int) > 1:=fun y=>c1 (decide_eq_true y)
       rw[cA] at c1
       exact⟨_,rfl,_,_,rfl,fin (fun y=>c1 (by lia)) H2 sm⟩
     ·refine⟨_,rfl,_,_,rfl,fin (fun y=>cc (decide_eq_true ?_)) H2 sm⟩
      rw[WL,hc] at y
      rw[jK,RQ y.1]
    ·rw[decide_eq_false hf]
     exact bR (cV sm (hbad (if_neg fun y=>hf y.2.1)))
  ·rw[decide_eq_false hlen]
   exact bR (hbad (JG hlen))
theorem fO (c:Nat):∀ l:List Nat,(spl c l).length<=l.length+1
 | []=>Rh _
 | x::r=>by
  have ih:=fO c r
  rw[spl]
  split
  ·rw[Rg,Rg]; lia
  ·split
   ·rename_i e
    rw[e,Rg] at ih
    rw[Rg,Rg]; lia
   ·simp
theorem dZ (c:Nat) (l:List Nat):Yn (S l) (S [c])=(spl c l).map S:=by
 have:=FJ (oY c l) (fG c l)
 rwa [vB] at this
theorem Tx.inf {p l:List Nat} (h:Inf p l) (t:Tx l):Tx p:=⟨fun x hx=>t.1 x (h.mem hx),RP h.len t.2⟩
theorem jo {α β:Type} {f:α->Option β}:∀ {l:List α} {j:Nat} {x:α} {ys:List β},dX f (l.take j)=some ys->l[j]? = some x->(∀ b,f x=some b->dX f (l.take (j+1))=some (ys++[b]))/\(f x=none->dX f l=none)
 | [],_,_,_,_,h=>by simp at h
 | y::r,0,x,ys,e,h=>by
  cases (show some y=some x from h)
  cases (show some []=some ys from e)
  refine⟨fun b eb=>?_,fun en=>jr Rc en⟩
  show dX f [y]=_
  rw[dX,eb]; rfl
 | y::r,j+1,x,ys,e,h=>by
  rw[YK] at e
  obtain⟨a,b,h1,h2,rfl⟩:=mJ e
  obtain⟨g1,g2⟩:=jo (l:=r) (j:=j) (x:=x) h2 (by simpa using h)
  refine⟨fun c ec=>?_,fun en=>?_⟩
  ·rw[YK,dX,h1,g1 c ec]; rfl
  ·rw[dX,h1,g2 en]
theorem uF {f C:Addr} {fd:Tp} (F:Fun K "read_crowd" "read_crowd" jA f fd) (B:Bt mg)
  (D_read_number:Dx P w K mg base "read_number" 4 ["text"] (rJ C cZ KR)):dB P w K mg base (XL P w) 5 f fd ["text"] (rJ C rdC rCr):=by
 refine F.okX tG (fun vs H Q E h=>?_) (fun cdv A outer s H vs Q E hr h=>?_)
 ·obtain⟨l,rfl,_⟩:=h
  rfl
 ·obtain⟨l,rfl,tx,q,hbad⟩:=h
  refine⟨_,(aA (aJ (aX (r:=gq K) bD rfl B.tuple_ bJ (aa (uM (L:=["word"]) (F:=[]) (cap:=[]) ⟨rfl,rfl⟩ rfl (fun _ _ z=>z) rfl (bU rfl rfl (by kernel_rfl)) (fD (gA Sq Ux Uw iB (pv 0) (aa aC ao))) (fun _ _ _ _ _=>(aN (i:=0) (bM (by decide+kernel)) rfl (RJ rfl))) (fun _ _ _ _ _=>cF) (fun _ _ _ _ _ _ px=>(my D_read_number hr px (aa (pv 0) ao)))) ao)))),?_⟩
  have l1:=fO 43 l
  have tl:=tx.2
  refine⟨_,rfl,rfl,_,_,rfl,rfl,rfl,?_,?_,fun p hp=>?_⟩
  ·rw[cA]
   lia
  ·rw[lH,dZ,Q8]
   lia
  ·rw[lH,dZ]
   generalize eH1:upd H p _=H1
   obtain⟨g1,e1⟩:=aH eH1 hp
   refine⟨p,rfl,⟨_,SqL.of e1⟩,fun D hD=>eX (K:=K) (a:=p) (xs:=((spl 43 l).map S).map V.str) (fun i zs σ' H2=>(∃ u,σ'=[u])/\∃ ns,dX cZ ((spl 43 l).take i)=some ns/\zs=ns.map vN/\bc H1 H2/\H2 D=some (.lst zs))
    ⟨⟨_,rfl⟩,[],rfl,rfl,az hD _,aj⟩ (fun i zs σ' H2 _ h=>⟨SqL.of (h.2.choose_spec.2.2.1 _ _ e1),h.2.choose_spec.2.2.2⟩) ?_ ?_⟩
   ·rintro j zs x σ' H2 hx ⟨⟨u,rfl⟩,ns,en,ez,sm,hDl⟩
    rw[Rz,Rz] at hx
    cases hi:(spl 43 l)[j]? with
    | none=>rw[hi] at hx; cases hx
    | some y =>
     rw[hi] at hx
     have hx:V.str (S y)=x:=RQ hx
     subst hx
     obtain⟨t1,t2⟩:=jo en hi
     have iy:=gm (RL hi)
     have nl:=cg en
     rw[RN] at nl
     refine gT ?_
     refine⟨_,rfl,y,rfl,tx.inf iy,fun n hn v H3 s3 hv=>?_,fun hn=>cV (g1.trans sm) (hbad (t2 hn))⟩
     cases hv
     refine⟨s3 _ _ hDl,?_,⟨_,rfl⟩,ns++[n],t1 n hn,by rw[ez,Rx]; rfl,aY (sm.trans s3) hD _,aj⟩
     rw[ez,Q8,nl]
     exact Sw (show _<=100001 by lia) (by decide)
   ·rintro zs σ' H2 ⟨_,ns,en,ez,sm,hDl⟩
    rw[Q8,Q8,R6] at en
    refine⟨D,_,rfl,.inl ⟨SqL.of (by rw[hDl,ez]),fun pt hpt=>?_⟩⟩
    exact q ns en _ _ (g1.trans (sm.trans (az hpt _))) ⟨pt,rfl,aj⟩
abbrev jt:Stmt:=top 27
theorem cL:aV ["text","head","colon","step","many","star","crowd"] ["text"] (aB jt):=⟨rfl,rfl,rfl,by decide+kernel,rfl,by decide+kernel,by decide+kernel⟩
theorem sW:(("" : String):Str)=S []:=by decide+kernel
theorem Dp (c:Nat) (l:List Nat):∃ x:List Nat,V6 (S l) (S [c])=(S (rpH c l).1,S x,S (rpH c l).2)/\(x=[] ↔ rpL c l=none)/\Inf (rpH c l).1 l/\Inf (rpH c l).2 l:=by
 unfold rpH
 cases e:rpL c l with
 | none=>exact⟨[],Hn (lA e),⟨fun _=>rfl,fun _=>rfl⟩,⟨[],l,rfl⟩,Inf.refl l⟩
 | some ab =>
  obtain⟨a,b⟩:=ab
  obtain⟨rfl,hb⟩:=d7 e
  exact⟨[c],GQ hb,⟨fun z=>(List.cons_ne_nil _ _ z).elim,fun z=>by injection z⟩,⟨[],c::b,rfl⟩,⟨a++[c],[],by simp⟩⟩
theorem lR {H:Hp}:∀ c:List Nat,eN H (c.map vN) (c.map dI)
 | []=>.nil
 | n::r=>.cons (.int _) (lR r)
theorem jT {H:Hp} (n:Nat):Rep H (vN n) (dI n):=.int _
theorem yJ {l x:List Nat} {y:Str} (e:y=S x) (h:l≠x):V.str (S l)≠V.str y:=fun z=>by
 rw[e] at z
 exact h (oG (V.str.inj z))
theorem nO {l x:List Nat} {y:Str} (e:y=S x) (h:l=x):V.str (S l)=V.str y:=by rw[e,h]
theorem wC {l c:List Nat} (t:Tx l) (h:rdC l=some c):(c.map vN).length<=100000:=by
 have h1:=cg h
 have h2:=fO 43 l
 have h3:=t.2
 rw[Q8]
 lia
theorem tW {f C:Addr} {fd:Tp} (F:Fun K "read_plain" "read_plain" jt f fd) (B:Bt mg)
  (D_read_number:Dx P w K mg base "read_number" 4 ["text"] (rJ C cZ KR)) (D_read_crowd:Dx P w K mg base "read_crowd" 5 ["text"] (rJ C rdC rCr)):dB P w K mg base (XL P w) 6 f fd ["text"] (rJ C rdP Rep):=by
 refine F.okX cL (fun vs H Q E h=>?_) (fun cdv A outer s H vs Q E hr h=>?_)
 ·obtain⟨l,rfl,_⟩:=h
  rfl
 ·obtain⟨l,rfl,tx,q,hbad⟩:=h
  refine⟨_,(au (bu (PW.pt (dW (aD cD (pv 0) aC (aK _)) (dY (aD cD (pv 0) aC (aK _))))) (aA (aJ (bh (aa (pv 0) ao)))) aM)
 (au (sO (gA Sq Z6 Z5 yz (pv 0) (aa aC ao)) (f9 (K:=K) 3 rfl rfl (bz (aN (i:=1) cL.nd rfl (RJ rfl)) (bz (aN (i:=2) cL.nd rfl (RJ rfl)) (bz (aN (i:=3) cL.nd rfl (RJ rfl)) fY)))))
 (au (sO (gA Sq Z6 Z5 yz (pv 1) (aa aC ao)) (f9 (K:=K) 3 rfl rfl (bz (aN (i:=4) cL.nd rfl (RJ rfl)) (bz (aN (i:=5) cL.nd rfl (RJ rfl)) (bz (aN (i:=6) cL.nd rfl (RJ rfl)) fY)))))
 (au (bu (aD rM (pv 5) aC (aK _)) (aA (aJ (bh (aa aC (aa (my D_read_crowd hr cW (aa (pv 6) ao)) (aa (my D_read_number hr cW (aa (pv 3) ao)) (aa (my D_read_number hr cW (aa (pv 4) ao)) ao))))))) aM)
 (au (bu (aD lu aC (pv 1) rfl) (aA (aJ (bh (aa aC (aa (my D_read_crowd hr cW (aa (pv 1) ao)) (aa (my D_read_number hr cW (aa (pv 3) ao)) ao)))))) aM)
 (aA (aJ (bh (aa aC (aa (my D_read_number hr cW (aa (pv 1) ao)) (aa (my D_read_number hr cW (aa (pv 3) ao)) ao))))))))))),?_⟩
  have tl:=tx.2
  unfold rdP at q hbad
  by_cases hf:l=qt
  ·rw[if_pos hf] at q
   refine⟨_,rfl,rfl,_,rfl,lY (nO sy hf) (bR ?_)⟩
   refine⟨_,rfl,small (by show 1<=1000; decide),fun p hp=>q frD rfl (.ref p) _ (az hp _) ?_⟩
   rw[nO sy hf]
   exact .tup aj (show 1<=100000 by decide) (.cons (.str _) .nil)
  rw[if_neg hf] at q hbad
  refine⟨_,rfl,rfl,_,rfl,dU (yJ sy hf) ?_⟩
  by_cases hn:l=jE
  ·rw[if_pos hn] at q
   refine⟨_,rfl,rfl,_,rfl,lY (nO mX hn) ?_⟩
   refine⟨_,rfl,small (by show 1<=1000; decide),fun p hp=>q nvD rfl (.ref p) _ (az hp _) ?_⟩
   rw[nO mX hn]
   exact .tup aj (show 1<=100000 by decide) (.cons (.str _) .nil)
  rw[if_neg hn] at q hbad
  refine⟨_,rfl,rfl,_,rfl,dU (yJ mX hn) ?_⟩
  obtain⟨x1,r1,_,i1,i2⟩:=Dp 58 l
  refine⟨_,rfl,rfl,_,_,rfl,rfl,rfl,dj (by lia),fun p1 h1=>?_⟩
  rw[eH,r1]
  generalize rpH 58 l=hs at q hbad i1 i2 ⊢
  obtain⟨hd,st⟩:=hs
  dsimp only at q hbad i1 i2 ⊢
  generalize eH1:upd H p1 _=H1
  obtain⟨g1,e1⟩:=aH eH1 h1
  refine⟨p1,_,rfl,SqT.of e1,rfl,_,_,rfl,_,_,rfl,_,_,rfl,rfl,?_⟩
  obtain⟨x2,r2,hx2,j1,j2⟩:=Dp 42 hd
  have th:=tx.inf i1
  refine⟨_,rfl,rfl,_,_,rfl,rfl,rfl,dj (by have:=th.2; lia),fun p2 h2=>?_⟩
  rw[rQ,r2]
  generalize eH2:upd H1 p2 _=H2
  obtain⟨g2,e2⟩:=aH eH2 h2
  have g12:=g1.trans g2
  refine⟨p2,_,rfl,SqT.of e2,rfl,_,_,rfl,_,_,rfl,_,_,rfl,rfl,?_⟩
  refine⟨_,rfl,rfl,_,rfl,?_⟩
  cases e42:rpL 42 hd with
  | some mc =>
   obtain⟨m,cr⟩:=mc
   have eh:rpH 42 hd=(m,cr):=by unfold rpH; rw[e42]; rfl
   rw[e42] at q hbad hx2
   rw[eh] at j1 j2 ⊢
   dsimp only at q hbad j1 j2 ⊢
   have nx:x2≠[]:=fun z=>by cases hx2.mp z
   refine Ba (by rw[sW,decide_eq_false (fun z=>nx (oG (V.str.inj z)))]; rfl) ?_
   refine⟨_,rfl,cr,rfl,th.inf j2,fun c hc v H3 s3 hv=>?_,fun hc=>cV g12 (hbad (by rw[hc]; rfl))⟩
   obtain⟨pc,rfl,ec⟩:=hv
   refine⟨_,rfl,st,rfl,tx.inf i2,fun k hk v H4 s4 hv=>?_,fun hk=>cV (g12.trans s3) (hbad (by rw[hc,hk]; rfl))⟩
   cases hv
   refine⟨_,rfl,m,rfl,th.inf j1,fun n hm v H5 s5 hv=>?_,fun hm=>cV (g12.trans (s3.trans s4)) (hbad (by rw[hc,hk,hm]; rfl))⟩
   cases hv
   refine⟨small (by show 4<=1000; decide),fun p hp=>q (crD c k n) (by rw[hc,hk,hm]; rfl) (.ref p) _ (g12.trans (s3.trans (s4.trans (s5.trans (az hp _))))) ?_⟩
   exact .tup aj (show 4<=100000 by decide) (.cons (.str _) (.cons (.tup ((s4.trans (s5.trans (az hp _))) _ _ ec) (wC (th.inf j2) hc) (lR _)) (.cons (jT _) (.cons (jT _) .nil))))
  | none =>
   rw[e42] at q hbad hx2
   dsimp only at q hbad
   have x0:x2=[]:=hx2.mpr rfl
   refine jf (by rw[sW,decide_eq_true (by rw[x0])]; rfl) ?_
   refine⟨_,rfl,_,_,rfl,rfl,_,rfl,?_⟩
   rw[lH,yF]
   by_cases h43:43∈hd
   ·rw[if_pos h43] at q hbad
    rw[decide_eq_true h43]
    refine bR ?_
    refine⟨_,rfl,hd,rfl,th,fun c hc v H3 s3 hv=>?_,fun hc=>cV g12 (hbad (by rw[hc]; rfl))⟩
    obtain⟨pc,rfl,ec⟩:=hv
    refine⟨_,rfl,st,rfl,tx.inf i2,fun k hk v H4 s4 hv=>?_,fun hk=>cV (g12.trans s3) (hbad (by rw[hc,hk]; rfl))⟩
    cases hv
    refine⟨small (by show 3<=1000; decide),fun p hp=>q (smD c k) (by rw[hc,hk]; rfl) (.ref p) _ (g12.trans (s3.trans (s4.trans (az hp _)))) ?_⟩
    exact .tup aj (show 3<=100000 by decide) (.cons (.str _) (.cons (.tup ((s4.trans (az hp _)) _ _ ec) (wC th hc) (lR _)) (.cons (jT _) .nil)))
   ·rw[if_neg h43] at q hbad
    rw[decide_eq_false h43]
    refine dF ?_
    refine⟨_,rfl,hd,rfl,th,fun c hc v H3 s3 hv=>?_,fun hc=>cV g12 (hbad (by rw[hc]; rfl))⟩
    cases hv
    refine⟨_,rfl,st,rfl,tx.inf i2,fun k hk v H4 s4 hv=>?_,fun hk=>cV (g12.trans s3) (hbad (by rw[hc,hk]; rfl))⟩
    cases hv
    refine⟨small (by show 3<=1000; decide),fun p hp=>q (gvD c k) (by rw[hc,hk]; rfl) (.ref p) _ (g12.trans (s3.trans (s4.trans (az hp _)))) ?_⟩
    exact .tup aj (show 3<=100000 by decide) (.cons (.str _) (.cons (jT _) (.cons (jT _) .nil)))
abbrev gn:Stmt:=top 28
theorem bw:aV ["text","sign","rows","deep","begin","at","found"] ["text","sign"] (aB gn):=⟨rfl,rfl,rfl,by decide+kernel,rfl,by decide+kernel,by decide+kernel⟩
def soV (c:Nat) (l:List Nat):List V:=((so c l 0 []).map S).map V.str
def Qm:Sp:=fun vs H Q _=>∃ (l:List Nat) (c:Nat),vs=[.str (S l),.str (S [c])]/\(∀ x∈l,x < 128)/\l.length<=100000/\∀ p H',bc H H'->H' p=some (.lst (soV c l))->Q (.ref p) H'
theorem JF {l:List Nat} {i:Nat} (h:i < l.length):l.drop i=l[i]::l.drop (i+1):=Wc h
theorem jH {l:List Nat} {b i:Nat} (hb:b<=i) (h:i < l.length):(l.drop b).take (i - b)++[l[i]]=(l.drop b).take (i+1 - b):=by
 rw[show i+1 - b=(i - b)+1 by lia,SJ,List.getElem?_drop,show b+(i - b)=i by lia,Rn h]
 rfl
theorem sG {a b:Nat}:V.str (S [a])=V.str (S [b]) ↔ a=b:=⟨fun z=>(TJ (oG (V.str.inj z))).1,fun z=>by rw[z]⟩
theorem oH (F:Fun K "split_outside" "split_outside" gn f fd) (B:Bt mg):dB P w K mg base CX0 1 f fd ["text","sign"] Qm:=by
 refine F.ok bw (fun vs H Q E h=>?_) (fun cdv A outer s H vs Q E hr h=>?_)
 ·obtain⟨l,c,rfl,_⟩:=h
  rfl
 ·obtain⟨l,c,rfl,ha,hl,q⟩:=h
  refine⟨_,(au (aU (i:=2) bw.nd rfl (RJ rfl) (cj ao))
 (au (aU (i:=3) bw.nd rfl (RJ rfl) aq)
 (au (aU (i:=4) bw.nd rfl (RJ rfl) aq)
 (au (gC TX rfl (Fq rfl B.enumerate_ (aa (pv 0) ao)) (f9 (K:=K) 2 rfl rfl (bz (aN (i:=5) bw.nd rfl (RJ rfl)) (bz (aN (i:=6) bw.nd rfl (RJ rfl)) fY))) (aA (bu (aD cD (pv 6) aC (aK _)) (aA (Ib (i:=3) bw.nd rfl (RJ rfl) aq (Hu Kv))) (aA (bu (aD cD (pv 6) aC (aK _)) (aA (Ib (i:=3) bw.nd rfl (RJ rfl) aq (Hu JX))) (aA (bu (PW.pt (nU (aD cD (pv 6) (pv 1) (aK _)) (ji (aD cD (pv 3) aq (aK _))))) (au (iG (gA Uo Ui Uh dw (pv 2) (aa (bI (r:=rm) dR (pv 0) (bQ (pv 4)) (bQ (pv 5))) ao)))
 (aA (aU (i:=4) bw.nd rfl (RJ rfl) (aL bK (pv 5) aq)))) aM)))))))
 (aA (aJ (aL zz (pv 2) (cj (aa (bI (r:=rm) dR (pv 0) (bQ (pv 4)) cQ) ao))))))))),?_⟩
  refine⟨small (by show 0<=1000; decide),fun pr hpr=>?_⟩
  generalize eH0:upd H pr _=H0
  obtain⟨g0,e0⟩:=aH eH0 hpr
  refine⟨_,rfl,S l,rfl,G6 ha,DP (y:=S l) (fun i σ H2=>bc H H2/\∃ (R:List (List Nat)) (d:Int) (b:Nat) (u1 u2:Option V),σ=[some (.str (S l)),some (.str (S [c])),some (.ref pr),some (.int d),some (.int (b:Int)),u1,u2]/\H2 pr=some (.lst ((R.map S).map V.str))/\b<=i/\R.length<=i/\so c l 0 []=R++so c (l.drop i) d ((l.drop b).take (i - b)))
   ⟨g0,[],0,0,_,_,rfl,e0,Rh _,Rh _,rfl⟩ ?_ ?_⟩
  ·rintro i p σ H2 hi hp ⟨s2,R,d,b,u1,u2,rfl,er,hb,hR,es⟩
   rw[nT] at hi
   rw[Om hi]
   generalize eH3:upd H2 p _=H3
   obtain⟨g3,e3⟩:=aH eH3 hp
   have s3:=s2.trans g3
   have er3:=g3 _ _ er
   rw[JF hi,so] at es
   refine⟨p,_,rfl,SqT.of e3,rfl,_,_,rfl,_,_,rfl,rfl,?_⟩
   refine⟨_,rfl,rfl,_,rfl,?_⟩
   rw[oJ]
   by_cases x40:l[i]=40
   ·rw[if_pos x40,jH hb hi] at es
    exact lY (sG.mpr x40) ⟨_,rfl,_,_,rfl,rfl,s3,R,d+1,b,_,_,rfl,er3,by lia,by lia,es⟩
   ·rw[if_neg x40] at es
    refine dU (fun z=>x40 (sG.mp z)) ?_
    refine⟨_,rfl,rfl,_,rfl,?_⟩
    rw[rN]
    by_cases x41:l[i]=41
    ·rw[if_pos x41,jH hb hi] at es
     exact lY (sG.mpr x41) ⟨_,rfl,_,_,rfl,rfl,s3,R,d - 1,b,_,_,rfl,er3,by lia,by lia,es⟩
    ·rw[if_neg x41] at es
     refine dU (fun z=>x41 (sG.mp z)) ?_
     refine⟨_,rfl,_,rfl,rfl,_,rfl,?_⟩
     by_cases xc:l[i]=c
     ·refine lY (sG.mpr xc) ?_
      refine⟨_,rfl,rfl,_,rfl,?_⟩
      by_cases x0:d=0
      ·rw[if_pos ⟨xc,x0⟩] at es
       refine lY (by rw[x0]) ?_
       have ec:=qx hb (Vn hi)
       refine⟨_,rfl,.inl ⟨rfl,_,SqL.of er3⟩,_,rfl,_,rfl,_,rfl,_,rfl,_,rfl,S l,rfl,dj (by lia),?_,?_⟩
       ·rw[ec]
        exact dj (by rw[RN,T8]; lia)
       ·rw[ec]
        refine⟨pr,_,_,rfl,rfl,er3,?_,_,rfl,_,_,rfl,rfl,aY s3 hpr _,R++[(l.drop b).take (i - b)],d,i+1,_,_,rfl,?_,Rh _,?_,?_⟩
        ·rw[Q8,Q8]
         exact Sw (show R.length<=100000 by lia) (by decide)
        ·rw[aj,Rx,Rx]
         rfl
        ·rw[Rf,Rk]
         lia
        ·rw[es,Zv,WK,RG]
         rfl
      ·rw[if_neg (fun z=>x0 z.2),jH hb hi] at es
       exact dU (fun z=>x0 (by injection z)) ⟨s3,R,d,b,_,_,rfl,er3,by lia,by lia,es⟩
     ·rw[if_neg (fun z=>xc z.1),jH hb hi] at es
      exact dU (fun z=>xc (sG.mp z)) ⟨s3,R,d,b,_,_,rfl,er3,by lia,by lia,es⟩
  ·rintro σ H2 ⟨s2,R,d,b,u1,u2,rfl,er,hb,hR,es⟩
   rw[nT] at hb hR es
   rw[W9,so,Vd (by rw[T8]; lia)] at es
   have ec:=pB hb
   refine⟨_,rfl,_,rfl,_,rfl,_,rfl,?_⟩
   unfold um
   refine⟨S l,rfl,dj (by lia),?_,small (by show 1<=1000; decide),fun p2 h2=>?_⟩
   ·rw[ec]
    exact dj (by rw[T8]; lia)
   ·rw[ec]
    refine⟨pr,p2,_,_,rfl,rfl,(az h2 _) _ _ er,aj,?_,fun p3 h3=>?_⟩
    ·rw[Q8,Q8]
     exact RP (show R.length+1<=100001 by lia) (by decide)
    ·refine q p3 _ (s2.trans ((az h2 _).trans (az h3 _))) ?_
     unfold soV
     rw[aj,es,Rx,Rx]
     rfl
theorem lL (c:Nat):∀ (l:List Nat) (d:Int) (cur:List Nat),(so c l d cur).length<=l.length+1
 | [],_,_=>Rh _
 | x::r,d,cur=>by
  rw[so,Rg]
  split
  ·have:=lL c r (d+1) (cur++[x]); lia
  ·split
   ·have:=lL c r (d - 1) (cur++[x]); lia
   ·split
    ·have:=lL c r d []
     rw[Rg]; lia
    ·have:=lL c r d (cur++[x]); lia
theorem CW {c:Nat} {l p:List Nat} (h:p∈so c l 0 []):Inf p l:=by
 have:=Ez (c:=c) h
 rwa [(t8 c l 0 []).1,TF] at this
mutual
theorem vG {H H' : Hp} (e : ∀ a xs, H a = some (HO.tup xs) → H' a = some (HO.tup xs)) : ∀ {v : V} {d : Dm}, Rep H v d → pd d = true → Rep H' v d
  | _, _, .non, _ => .non
  | _, _, .bl b, _ => .bl b
  | _, _, .int i, _ => .int i
  | _, _, .str x, _ => .str x
  | _, _, .tup h l r, hp => .tup (e _ _ h) l (qw e r (qT hp).2)
  | _, _, .lst h l r, hp => by rw [pd] at hp; · cases hp
                               all_goals simp
theorem qw {H H':Hp} (e:∀ a xs,H a=some (HO.tup xs)->H' a=some (HO.tup xs)):∀ {vs:List V} {ds:List Dm},eN H vs ds->pdL ds=true->eN H' vs ds
 | _,_,.nil,_=>.nil
 | _,_,.cons h r,hp=>by
  rw[pdL,Rp] at hp
  exact .cons (vG e h hp.1) (qw e r hp.2)
end
theorem Em {c:List Nat} (h:c.length<=100000):pd (.tup (c.map dI))=true:=Hr (by rw[Q8]; lia) (qg fun d hd=>by
 obtain⟨i,_,rfl⟩:=List.mem_map.mp hd
 rfl)
theorem nG {z:Str} {ds:List Dm} (l:ds.length<=5) (h:∀ d∈ds,pd d=true):pd (.tup (.str z::ds))=true:=Hr (by rw[Rg]; lia) (qg fun d hd=>by
 rcases List.mem_cons.mp hd with rfl | hd
 ·rfl
 ·exact h d hd)
theorem Mj {l:List Nat} {x:Dm} (tl:l.length<=90000) (h:rdP l=some x):pd x=true:=by
 unfold rdP at h
 by_cases hf:l=qt
 ·rw[if_pos hf] at h; cases h; exact nG (by decide) (by simp)
 rw[if_neg hf] at h
 by_cases hn:l=jE
 ·rw[if_pos hn] at h; cases h; exact nG (by decide) (by simp)
 rw[if_neg hn] at h
 have i1:(rpH 58 l).1.length<=l.length:=by
  unfold rpH
  cases e:rpL 58 l with
  | none=>simp
  | some ab =>
   obtain⟨a,b⟩:=ab
   obtain⟨rfl,_⟩:=d7 e
   simp
 have few:∀ {y:List Nat} {c:List Nat},y.length<=l.length->rdC y=some c->c.length<=100000:=fun hy e=>by
  have h1:=cg e
  rw[h1]
  exact RP (fO 43 _) (by lia)
 generalize (rpH 58 l).1=hd at h i1
 generalize (rpH 58 l).2=st at h
 cases e42:rpL 42 hd with
 | some mc =>
  obtain⟨m,cr⟩:=mc
  obtain⟨ea,_⟩:=d7 e42
  rw[e42] at h
  dsimp only at h
  have i2:cr.length<=l.length:=by rw[ea,Rf,Rg] at i1; lia
  cases ec:rdC cr with
  | none=>rw[ec] at h; cases h
  | some c =>
   rw[ec] at h
   cases ek:cZ st with
   | none=>rw[ek] at h; cases h
   | some k =>
    rw[ek] at h
    cases em:cZ m with
    | none=>rw[em] at h; cases h
    | some mm =>
     rw[em] at h
     cases (show some (crD c k mm)=some x from h)
     have:=Em (few i2 ec)
     refine nG (by simp) fun d0 h0=>?_
     simp only[Tu,T7,or_false] at h0
     rcases h0 with rfl | rfl | rfl
     ·exact this
     ·rfl
     ·rfl
 | none =>
  rw[e42] at h
  dsimp only at h
  split at h
  ·cases ec:rdC hd with
   | none=>rw[ec] at h; cases h
   | some c =>
    rw[ec] at h
    cases ek:cZ st with
    | none=>rw[ek] at h; cases h
    | some k =>
     rw[ek] at h
     cases (show some (smD c k)=some x from h)
     have:=Em (few i1 ec)
     refine nG (by simp) fun d0 h0=>?_
     simp only[Tu,T7,or_false] at h0
     rcases h0 with rfl | rfl
     ·exact this
     ·rfl
  ·cases ec:cZ hd with
   | none=>rw[ec] at h; cases h
   | some c =>
    rw[ec] at h
    cases ek:cZ st with
    | none=>rw[ek] at h; cases h
    | some k =>
     rw[ek] at h
     cases (show some (gvD c k)=some x from h)
     exact nG (by simp) (by simp [dI,pd])
theorem fc {α β:Type} {f:α->Option β}:∀ {l:List α} {ys:List β},dX f l=some ys->∀ y∈ys,∃ x∈l,f x=some y
 | [],_,e=>fun y hy=>by cases e; cases hy
 | z::r,ys,e=>fun y hy=>by
  obtain⟨a,b,h1,h2,rfl⟩:=mJ e
  rcases List.mem_cons.mp hy with rfl | hy
  ·exact⟨z,Rc,h1⟩
  ·obtain⟨x,h3,h4⟩:=fc h2 y hy
   exact⟨x,Ri _ h3,h4⟩
theorem sI:∀ (d:Nat) {l:List Nat} {x:Dm},l.length<=90000->rdW d l=some x->pd x=true
 | 0,_,_,_,h=>by rw[rdW] at h; cases h
 | d+1,l,x,tl,h=>by
  rw[rdW] at h
  split at h
  ·exact Mj tl h
  ·split at h
   ·cases h
   ·have il:=(pZ l).len
    have go:∀ s ds,dX (rdW d) (so s (jJ l) 0 [])=some ds->pd (grD s ds)=true:=fun s ds e=>by
     have h1:=cg e
     have h2:=lL s (jJ l) 0 []
     refine nG (by simp) fun y hy=>?_
     rw[List.mem_singleton.mp hy]
     refine Hr (by lia) (qg fun y hy=>?_)
     obtain⟨p,hp,ep⟩:=fc e y hy
     exact sI d (by have:=(CW hp).len; lia) ep
    split at h
    ·obtain⟨ds,e,rfl⟩:=Option.map_eq_some_iff.mp h
     exact go 38 ds e
    ·split at h
     ·obtain⟨ds,e,rfl⟩:=Option.map_eq_some_iff.mp h
      exact go 124 ds e
     ·cases h
abbrev iM:Stmt:=top 29
abbrev kh:Stmt:=top 30
theorem eQ:aV ["text","deep","sign","kind","rows"] ["text","deep"] (aB iM):=⟨rfl,rfl,rfl,by decide+kernel,rfl,by decide+kernel,by decide+kernel⟩
theorem n8:aV ["text","term"] ["text"] (aB kh):=⟨rfl,rfl,rfl,by decide+kernel,rfl,by decide+kernel,by decide+kernel⟩
def Kq (C:Addr) (d:Nat):Sp:=fun vs H Q E=>∃ (l:List Nat) (dp:Nat),vs=[.str (S l),.int (dp:Int)]/\dp < d/\Tx l/\(∀ b,rdW dp l=some b->∀ v H',bc H H'->Rep H' v b->Q v H')/\(rdW dp l=none->thrown C "bad text" H E)
theorem JH {f C:Addr} {fd:Tp} {ps:List Str} {k:Nat}:dB P w K mg base (XL P w) k f fd ps (Kq C 0):=by
 have no:∀ vs H Q E,¬ Kq C 0 vs H Q E:=fun vs H Q E h=>by
  obtain⟨l,dp,_,h1,_⟩:=h
  lia
 exact⟨fun vs H Q E h=>absurd h (no vs H Q E),fun A outer s H args us vs Q E _ _ _ _ h=>absurd h (no vs H Q E)⟩
theorem K4 {l:List Nat} (h1:l.head? = some 40) (h2:l.getLast? = some 41):fK (S l) (some 1) (some (-1))=S (jJ l):=by
 have:=zB h1 h2
 generalize jJ l=q at this ⊢
 subst this
 exact Hy
theorem Kd (l:List Nat) (c:Nat):Wr (S l) (S [c])=decide (l.getLast? = some c):=by
 rcases Vi l with rfl | ⟨q,x,rfl⟩
 ·rw[decide_eq_false (by simp)]
  unfold Wr
  rw[XM,cA,cA]
  rfl
 ·rw[Vj,List.getLast?_concat]
  by_cases e:x=c
  ·rw[e,GX,decide_eq_true rfl]
  ·rw[decide_eq_false (fun z=>e (RQ z))]
   unfold Wr
   rw[XM,cA,cA]
   have e2:(q++[x]).length - [c].length=q.length:=by simp
   rw[e2]
   show (_ && (((q++[x]).drop q.length).take 1 == [c]))=false
   rw[List.drop_left,Bool.and_eq_false_iff]
   right
   simp [e]
theorem Cj {K:R7} {C:Addr} {d dp:Nat} {ps:List (List Nat)} {H H0:Hp} {b D:Addr} {σ0:St} {Q:Hp->Prop} {E:XK} (hb:H b=some (.lst ((ps.map S).map V.str))) (g:bc H0 H) (hdp:dp < d) (tx:∀ p∈ps,Tx p) (hps:ps.length<=100000) (hD:H D=none) (h0:∃ u,σ0=[u,some (.int ((dp+1:Nat):Int))])
  (hbad:dX (rdW dp) ps=none->thrown C "bad text" H0 E) (q:∀ H2 vs ds,bc H H2->H2 D=some (.lst vs)->eN H2 vs ds->dX (rdW dp) ps=some ds->Q H2):fZ D σ0 (Itl K b) (pI 0) Ax (yd (Kq C d) [] E (oO (Ai 0) (oO (tOp (rI0 fun i j=>.int (i - j)) (Ai 1) (tC (.int 1))) Fz))) H Q:=by
 refine eX (K:=K) (a:=b) (xs:=(ps.map S).map V.str) (fun i zs σ' H2=>(∃ u,σ'=[u,some (.int ((dp+1:Nat):Int))])/\(∃ ds,dX (rdW dp) (ps.take i)=some ds/\eN H2 zs ds)/\bc H H2/\H2 D=some (.lst zs))
  ⟨h0,⟨[],rfl,.nil⟩,az hD _,aj⟩ (fun i zs σ' H2 _ h=>⟨SqL.of (h.2.2.1 _ _ hb),h.2.2.2⟩) ?_ ?_
 ·rintro j zs x σ' H2 hx ⟨⟨u,rfl⟩,⟨ds,ed,rz⟩,sm,hDl⟩
  rw[Rz,Rz] at hx
  cases hi:ps[j]? with
  | none=>rw[hi] at hx; cases hx
  | some y =>
   rw[hi] at hx
   have hx:V.str (S y)=x:=RQ hx
   subst hx
   obtain⟨t1,t2⟩:=jo ed hi
   have nl:=cg ed
   rw[RN] at nl
   refine gT ?_
   refine⟨_,rfl,_,rfl,_,_,rfl,rfl,y,dp,(by show[V.str (S y),V.int (((dp+1:Nat):Int) - 1)]=_; rw[show ((dp+1:Nat):Int) - 1=(dp:Int) by lia]),hdp,tx y (RL hi),fun n hn v H3 s3 rv=>?_,fun hn=>cV (g.trans sm) (hbad (t2 hn))⟩
   refine⟨s3 _ _ hDl,?_,⟨_,rfl⟩,⟨ds++[n],t1 n hn,?_⟩,aY (sm.trans s3) hD _,aj⟩
   ·have:=rz.length
    exact Sw (show _<=100000 by lia) (by decide)
   ·have k:∀ a xs,H3 a=some (HO.tup xs)->upd H3 D (.lst (zs++[v])) a=some (HO.tup xs):=eO (s3 _ _ hDl)
    exact lM (qw k (rz.mono s3) (qg fun z hz=>by
     obtain⟨p,hp,ep⟩:=fc ed z hz
     exact sI dp (tx p (Vo hp)).2 ep)) (.cons (vG k rv (sI dp (tx y (RL hi)).2 hn)) .nil)
 ·rintro zs σ' H2 ⟨_,⟨ds,ed,rz⟩,sm,hDl⟩
  rw[Q8,Q8,R6] at ed
  exact q H2 zs ds sm hDl rz ed
theorem du {f C:Addr} {fd:Tp} {d k:Nat} (F:Fun K "read_within" "read_within" iM f fd) (B:Bt mg) (hk:6<=k)
  (D_read_plain:Dx P w K mg base "read_plain" 6 ["text"] (rJ C rdP Rep)) (D_split_outside:Df P w K mg base "split_outside" 1 ["text","sign"] Qm) (D_read_within:Dx P w K mg base "read_within" k ["text","deep"] (Kq C d)) (X_BadText:Xc P w K mg base "BadText" C "bad text"):dB P w K mg base (XL P w) (k+1) f fd ["text","deep"] (Kq C (d+1)):=by
 refine F.okX eQ (fun vs H Q E h=>?_) (fun cdv A outer s H vs Q E hr h=>?_)
 ·obtain⟨l,dp,rfl,_⟩:=h
  rfl
 ·obtain⟨l,dp,rfl,hd,tx,q,hbad⟩:=h
  refine⟨_,(au (bu (aD uN (pv 1) aq (aK _)) (aA (iR X_BadText hr rfl gj (hk:=(by lia)))) aM)
 (au (bu (dH (dq (gA Sq PySem.F.slot_str_startswith PySem.F.type_str_startswith Eu (pv 0) (aa aC ao)))) (aA (aJ (my D_read_plain hr cW (aa (pv 0) ao)))) aM)
 (au (bu (dH (dq (gA Sq PySem.F.slot_str_endswith PySem.F.type_str_endswith Kw (pv 0) (aa aC ao)))) (aA (iR X_BadText hr rfl gj (hk:=(by lia)))) aM)
 (au (gC PassesOwn.leaving rfl (iZ (bh (aa (bh (aa aC (aa aC ao))) (aa (bh (aa aC (aa aC ao))) ao)))) (f9 (K:=K) 2 rfl rfl (bz (aN (i:=2) eQ.nd rfl (RJ rfl)) (bz (aN (i:=3) eQ.nd rfl (RJ rfl)) fY))) (au (aU (i:=4) eQ.nd rfl (RJ rfl) (bF D_split_outside hr (aa (bI (r:=rm) dR (pv 0) (bQ aq) (bQ (uw lX aq))) (aa (pv 2) ao))))
 (aA (bu (aD uG (aG (r:=nZ K) bf rfl B.len_ bW (aa (pv 4) ao)) aq (aK _)) (aA (aJ (bh (aa (pv 3) (aa (aX (r:=gq K) bD rfl B.tuple_ bJ (aa (uM (L:=["row"]) (F:=["deep"]) (cap:=[1]) ⟨rfl,rfl⟩ rfl (fun _ _ z=>z) rfl (bU rfl rfl (by kernel_rfl)) (fD (pv 4)) (fun _ _ _ _ _=>(aN (i:=0) (bM (by decide+kernel)) rfl (RJ rfl))) (fun _ _ _ _ _=>cF) (fun _ _ _ _ _ _ px=>(my D_read_within hr px (aa (pv 0) (aa (aL gQ (pv 1) aq) ao))))) ao)) ao))))) aM))))
 (aA (iR X_BadText hr rfl gj (hk:=(by lia)))))))),?_⟩
  have tl:=tx.2
  refine⟨_,rfl,_,_,rfl,rfl,_,rfl,?_⟩
  cases dp with
  | zero =>
   refine lY (by decide) ?_
   exact hbad rfl
  | succ dp =>
   refine dU (by lia) ?_
   rw[rdW] at q hbad
   refine⟨_,rfl,rfl,_,_,rfl,rfl,_,rfl,?_⟩
   rw[oJ,zT]
   by_cases h1:l.head? = some 40
   ·have g1:¬ (l.head?≠some 40):=fun z=>z h1
    rw[if_neg g1] at q hbad
    rw[decide_eq_true h1]
    refine dF ⟨_,rfl,rfl,_,_,rfl,rfl,_,rfl,?_⟩
    rw[rN,Kd]
    by_cases h2:l.getLast? = some 41
    ·have g2:¬ (l.getLast?≠some 41):=fun z=>z h2
     rw[if_neg g2] at q hbad
     rw[decide_eq_true h2]
     have ti:=tx.inf (pZ l)
     have ei:=K4 h1 h2
     refine dF ⟨small (by show 2<=1000; decide),fun p1 hp1=>?_⟩
     generalize eH1:upd H p1 _=H1
     obtain⟨g1,e1⟩:=aH eH1 hp1
     refine⟨small (by show 2<=1000; decide),fun p2 hp2=>?_⟩
     generalize eH2:upd H1 p2 _=H2
     obtain⟨g2,e2⟩:=aH eH2 hp2
     refine⟨small (by show 2<=1000; decide),fun p3 hp3=>?_⟩
     generalize eH3:upd H2 p3 _=H3
     obtain⟨g3,e3⟩:=aH eH3 hp3
     refine⟨p3,rfl,⟨_,SqT.of e3⟩,uh (K:=K) (a:=p3) (xs:=[.ref p1,.ref p2]) (fun i σ H4=>bc H3 H4/\(1<=i->¬ 1 < (so 38 (jJ l) 0 []).length)/\(2<=i->¬ 1 < (so 124 (jJ l) 0 []).length)/\∃ u1 u2 u3,σ=[some (.str (S l)),some (.int ((dp+1:Nat):Int)),u1,u2,u3]) ⟨bc.refl _,fun z=>absurd z (by decide),fun z=>absurd z (by decide),_,_,_,rfl⟩ (fun i σ H4 _ h=>SqT.of (h.1 _ _ e3)) ?_ ?_⟩
     ·-- one sign
      rintro i x σ H4 hx ⟨s4,n1,n2,u1,u2,u3,rfl⟩
      have g4:=g1.trans (g2.trans (g3.trans s4))
      rcases (show i=0∨i=1 by have:=(List.getElem?_eq_some_iff.mp hx).1; have:i < 2:=this; lia) with rfl | rfl
      ·cases (show some (V.ref p1)=some x from hx)
       refine⟨p1,_,rfl,SqT.of (s4 _ _ (g3 _ _ (g2 _ _ e1))),rfl,_,_,rfl,_,_,rfl,rfl,?_⟩
       refine⟨_,rfl,_,rfl,_,rfl,_,rfl,_,rfl,dj (by lia),?_,_,rfl,jJ l,38,?_,ti.1,by have:=ti.2; lia,fun pr H5 s5 e5=>?_⟩
       ·show (fK _ (some 1) (some (-1))).length<=_
        rw[ei]
        exact dj (by have:=ti.2; lia)
       ·show[V.str (fK _ (some 1) (some (-1))),V.str ("&" : Str)]=_
        rw[ei,BX]
       ·refine⟨_,rfl,pr,_,rfl,.inl (SqL.of e5),_,_,rfl,rfl,_,rfl,?_⟩
        refine jG (fun cc=>?_) (fun cc=>?_)
        ·have hl:1 < (so 38 (jJ l) 0 []).length:=by
          have:=of_decide_eq_true cc
          unfold soV at this
          rw[Q8,Q8] at this
          lia
         rw[if_pos hl] at q hbad
         refine⟨_,rfl,_,rfl,pr,rfl,⟨_,SqL.of e5⟩,fun D hD=>Cj e5 (g4.trans s5) (by lia) (fun p hp=>tx.inf ((CW hp).trans (pZ l))) (by have:=lL 38 (jJ l) 0 []; have:=ti.2; lia) hD ⟨_,rfl⟩ (fun en=>hbad (by rw[en]; rfl)) fun H6 vs ds s6 eD rv ed=>?_⟩
         refine⟨D,_,rfl,.inl ⟨SqL.of eD,fun p4 h4=>⟨small (by show 2<=1000; decide),fun p5 h5=>?_⟩⟩⟩
         have lv:=rv.length
         have ls:=cg ed
         have lm:=lL 38 (jJ l) 0 []
         have:=ti.2
         refine q (grD 38 ds) (by rw[ed]; rfl) (.ref p5) _ (g4.trans (s5.trans (s6.trans ((az h4 _).trans (az h5 _))))) ?_
         exact .tup aj (show 2<=100000 by decide) (.cons (.str _) (.cons (.tup (az h5 _ _ _ aj) (by lia) (rv.mono ((az h4 _).trans (az h5 _)))) .nil))
        ·have hl:¬ 1 < (so 38 (jJ l) 0 []).length:=fun z=>cc (decide_eq_true (by
          unfold soV
          rw[Q8,Q8]
          lia))
         exact⟨s4.trans s5,fun _=>hl,fun z=>absurd z (by decide),_,_,_,rfl⟩
      ·cases (show some (V.ref p2)=some x from hx)
       rw[if_neg (n1 (Rh _))] at q hbad
       refine⟨p2,_,rfl,SqT.of (s4 _ _ (g3 _ _ e2)),rfl,_,_,rfl,_,_,rfl,rfl,?_⟩
       refine⟨_,rfl,_,rfl,_,rfl,_,rfl,_,rfl,dj (by lia),?_,_,rfl,jJ l,124,?_,ti.1,by have:=ti.2; lia,fun pr H5 s5 e5=>?_⟩
       ·show (fK _ (some 1) (some (-1))).length<=_
        rw[ei]
        exact dj (by have:=ti.2; lia)
       ·show[V.str (fK _ (some 1) (some (-1))),V.str ("|" : Str)]=_
        rw[ei,Py]
       ·refine⟨_,rfl,pr,_,rfl,.inl (SqL.of e5),_,_,rfl,rfl,_,rfl,?_⟩
        refine jG (fun cc=>?_) (fun cc=>?_)
        ·have hl:1 < (so 124 (jJ l) 0 []).length:=by
          have:=of_decide_eq_true cc
          unfold soV at this
          rw[Q8,Q8] at this
          lia
         rw[if_pos hl] at q hbad
         refine⟨_,rfl,_,rfl,pr,rfl,⟨_,SqL.of e5⟩,fun D hD=>Cj e5 (g4.trans s5) (by lia) (fun p hp=>tx.inf ((CW hp).trans (pZ l))) (by have:=lL 124 (jJ l) 0 []; have:=ti.2; lia) hD ⟨_,rfl⟩ (fun en=>hbad (by rw[en]; rfl)) fun H6 vs ds s6 eD rv ed=>?_⟩
         refine⟨D,_,rfl,.inl ⟨SqL.of eD,fun p4 h4=>⟨small (by show 2<=1000; decide),fun p5 h5=>?_⟩⟩⟩
         have lv:=rv.length
         have ls:=cg ed
         have lm:=lL 124 (jJ l) 0 []
         have:=ti.2
         refine q (grD 124 ds) (by rw[ed]; rfl) (.ref p5) _ (g4.trans (s5.trans (s6.trans ((az h4 _).trans (az h5 _))))) ?_
         exact .tup aj (show 2<=100000 by decide) (.cons (.str _) (.cons (.tup (az h5 _ _ _ aj) (by lia) (rv.mono ((az h4 _).trans (az h5 _)))) .nil))
        ·have hl:¬ 1 < (so 124 (jJ l) 0 []).length:=fun z=>cc (decide_eq_true (by
          unfold soV
          rw[Q8,Q8]
          lia))
         exact⟨s4.trans s5,fun _=>n1 (Rh _),fun _=>hl,_,_,_,rfl⟩
     ·rintro σ H4 ⟨s4,n1,n2,u1,u2,u3,rfl⟩
      rw[if_neg (n1 (show 1<=2 by decide)),if_neg (n2 (show 2<=2 by decide))] at hbad
      exact cV (g1.trans (g2.trans (g3.trans s4))) (hbad rfl)
    ·rw[if_pos h2] at hbad
     rw[decide_eq_false h2]
     exact bR (hbad rfl)
   ·rw[if_pos h1] at q hbad
    rw[decide_eq_false h1]
    exact bR ⟨_,rfl,l,rfl,tx,q,hbad⟩
theorem Jl {d : Dm} {z : Str} (h : eqD d (.str z) = true) : d = .str z := by
  cases d with
  | str x => rw [eqD] at h; rw [eq_of_beq h]
  | non => rw [eqD] at h; · cases h
           all_goals simp
  | bl b => rw [eqD] at h; · cases h
            all_goals simp
  | int i => rw [eqD] at h; · cases h
             all_goals simp
  | tup ds => rw [eqD] at h; · cases h
              all_goals simp
  | lst ds => rw [eqD] at h; · cases h
              all_goals simp
theorem rO {H:Hp} {v:V} {d:Dm} {lo hi:Int} (r:Rep H v d) (h:isNum d lo hi=true):∃ z:Int,v = .int z/\d = .int z/\lo<=z/\z<=hi:=by
 cases r with
 | int i =>
  unfold isNum at h
  rw[Rp,decide_eq_true_eq,decide_eq_true_eq] at h
  exact⟨i,rfl,rfl,h.1,h.2⟩
 | _=>cases h
theorem N7 {H:Hp} {hi:Int}:∀ {xs:List V} {ds:List Dm} {lo:Int},0<=lo->eN H xs ds->Az hi lo ds=true->∃ c:List Nat,xs=c.map vN/\(∀ i∈c,lo<=(i:Int)/\(i:Int)<=hi)/\c.Pairwise (· < ·)
 | _,_,lo,h0,.nil,_=>⟨[],rfl,⟨fun i z=>(T7 z).elim,Xw⟩⟩
 | _,_,lo,h0,.cons (d:=d) rv rl,h=>by
  rw[Az,Rp] at h
  obtain⟨z,rfl,rfl,z1,z2⟩:=rO rv h.1
  obtain⟨c,rfl,c1,c2⟩:=N7 (lo:=z+1) (by lia) rl h.2
  have ez:((z.toNat:Nat):Int)=z:=by lia
  refine⟨z.toNat::c,?_,fun i hi=>?_,?_⟩
  ·show _=V.int ((z.toNat:Nat):Int)::_
   rw[ez]
  ·rcases List.mem_cons.mp hi with rfl | hi
   ·lia
   ·have:=c1 i hi
    lia
  ·rw[Ul]
   refine⟨fun j hj=>?_,c2⟩
   have:=c1 j hj
   lia
theorem zK {H:Hp} {v:V} {d:Dm} {few:Int} (r:Rep H v d) (h:Dq 12 d few=true):∃ (b:Addr) (c:List Nat),v = .ref b/\H b=some (.tup (c.map vN))/\(∀ i∈c,i < 12)/\c.Pairwise (· < ·)/\c.length<=20/\few<=(c.length:Int):=by
 cases r with
 | @tup b xs ds hb hl rl =>
  unfold Dq at h
  dsimp only at h
  rw[Rp,decide_eq_true_eq] at h
  obtain⟨c,rfl,c1,c2⟩:=N7 (by decide) rl h.2
  have l1:=rl.length
  rw[Q8] at l1
  have c3:∀ i∈c,i < 12:=fun i hi=>by have:=c1 i hi; lia
  have l2:=mG c2 c3
  exact⟨b,c,rfl,hb,c3,c2,by lia,by lia⟩
 | _=>cases h
theorem rT {H:Hp} {xs:List V} {ds:List Dm} (r:eN H xs ds) {z:Str} (k:cY ds z=true) (n0:¬ ds.length=0):∃ (us:List V) (es:List Dm),xs = .str z::us/\ds = .str z::es/\eN H us es:=by
 cases r with
 | nil=>exact absurd rfl n0
 | @cons v d vs es rv rl =>
  have e:d = .str z:=Jl (show eqD d (.str z)=true from k)
  subst e
  cases rv
  exact⟨_,_,rfl,rfl,rl⟩
theorem rlN {H:Hp}:∀ {us:List V} {es:List Dm},eN H us es->es.length=0->us=[]/\es=[]
 | _,_,.nil,_=>⟨rfl,rfl⟩
 | _,_,.cons _ _,h=>by rw[Rg] at h; lia
theorem rlC {H:Hp} {n:Nat}:∀ {us:List V} {es:List Dm},eN H us es->es.length=n+1->∃ u e us' es',us=u::us'/\es=e::es'/\Rep H u e/\eN H us' es'/\es'.length=n
 | _,_,.nil,h=>by cases h
 | _,_,.cons r r',h=>⟨_,_,_,_,rfl,rfl,r,r',X7 h⟩
theorem rl1 {H:Hp} {us:List V} {es:List Dm} (r:eN H us es) (h:es.length=1):∃ u e,us=[u]/\es=[e]/\Rep H u e:=by
 obtain⟨u,e,us,es,rfl,rfl,r1,r,h⟩:=rlC r h
 obtain⟨rfl,rfl⟩:=rlN r h
 exact⟨u,e,rfl,rfl,r1⟩
theorem rl2 {H:Hp} {us:List V} {es:List Dm} (r:eN H us es) (h:es.length=2):∃ u e u2 e2,us=[u,u2]/\es=[e,e2]/\Rep H u e/\Rep H u2 e2:=by
 obtain⟨u,e,us,es,rfl,rfl,r1,r,h⟩:=rlC r h
 obtain⟨u2,e2,rfl,rfl,r2⟩:=rl1 r h
 exact⟨u,e,u2,e2,rfl,rfl,r1,r2⟩
theorem rl3 {H:Hp} {us:List V} {es:List Dm} (r:eN H us es) (h:es.length=3):∃ u e u2 e2 u3 e3,us=[u,u2,u3]/\es=[e,e2,e3]/\Rep H u e/\Rep H u2 e2/\Rep H u3 e3:=by
 obtain⟨u,e,us,es,rfl,rfl,r1,r,h⟩:=rlC r h
 obtain⟨u2,e2,u3,e3,rfl,rfl,r2,r3⟩:=rl2 r h
 exact⟨u,e,u2,e2,u3,e3,rfl,rfl,r1,r2,r3⟩
theorem MK:∀ (n:Nat) {H:Hp} {v:V} {d:Dm},Rep H v d->isT 12 n d=true->∃ t,jg 12 H v t/\t.dep<=n
 | 0,_,_,_,_,h=>by rw[isT] at h; cases h
 | n+1,H,v,d,r,h=>by
  cases r with
  | @tup a xs ds ha hl rl =>
   rw[isT] at h
   split at h
   ·cases h
   rename_i n0
   split at h
   ·rename_i hk
    have h1:=of_decide_eq_true h
    rw[VF] at hk
    rcases hk with hk | hk
    ·obtain⟨us,es,rfl,rfl,rl'⟩:=rT rl hk n0
     cases rl' with
     | nil=>exact⟨.free,.free ha,Wo 1 n⟩
     | cons _ _=>simp at h1
    ·obtain⟨us,es,rfl,rfl,rl'⟩:=rT rl hk n0
     cases rl' with
     | nil=>exact⟨.never,.never ha,Wo 1 n⟩
     | cons _ _=>simp at h1
   split at h
   ·rename_i hk
    obtain⟨us,es,rfl,rfl,rl'⟩:=rT rl hk n0
    rw[Rp,Rp,decide_eq_true_eq] at h
    obtain⟨h3,h4,h5⟩:=h
    obtain⟨u1,e1,u2,e2,rfl,rfl,r1,r2⟩:=rl2 rl' (X7 h3)
    ·skip
     obtain⟨z,rfl,rfl,z1,z2⟩:=rO r1 h4
     obtain⟨k,rfl,rfl,k1,k2⟩:=rO r2 h5
     have ez:vN z.toNat = .int z:=by show V.int ((z.toNat:Nat):Int)=_; congr 1; lia
     exact⟨.gives z.toNat k,.gives (by rw[ez]; exact ha) (by lia) k1 k2,Wo 1 n⟩
   split at h
   ·rename_i hk
    obtain⟨us,es,rfl,rfl,rl'⟩:=rT rl hk n0
    rw[Rp,Rp,decide_eq_true_eq] at h
    obtain⟨h3,h4,h5⟩:=h
    obtain⟨u1,e1,u2,e2,rfl,rfl,r1,r2⟩:=rl2 rl' (X7 h3)
    ·skip
     obtain⟨b,c,rfl,hb,c1,c2,c3,c4⟩:=zK r1 h4
     obtain⟨k,rfl,rfl,k1,k2⟩:=rO r2 h5
     exact⟨.sum c k,.sum ha hb c1 c2 c3 (by lia) k1 k2,Wo 1 n⟩
   split at h
   ·rename_i hk
    obtain⟨us,es,rfl,rfl,rl'⟩:=rT rl hk n0
    rw[Rp,Rp,Rp,decide_eq_true_eq] at h
    obtain⟨h3,h4,h5,h6⟩:=h
    obtain⟨u1,e1,u2,e2,u3,e3,rfl,rfl,r1,r2,r3⟩:=rl3 rl' (X7 h3)
    ·skip
     obtain⟨b,c,rfl,hb,c1,c2,c3,c4⟩:=zK r1 h4
     obtain⟨k,rfl,rfl,k1,k2⟩:=rO r2 h5
     obtain⟨m,rfl,rfl,m1,m2⟩:=rO r3 h6
     exact⟨.crowd c k m,.crowd ha hb c1 c2 c3 (by lia) k1 k2 m1 m2,Wo 1 n⟩
   split at h
   ·rename_i hk
    rw[Rp,decide_eq_true_eq] at h
    obtain⟨h3,h4⟩:=h
    have parts:∀ {b:Addr} {us:List V} {es:List Dm},eN H us es->(∀ e∈es,isT 12 n e=true)->∃ ts,cM 12 H us ts/\tdL ts<=n:=fun {b us es}=>by
     induction us generalizing es with
     | nil=>intro rl _; exact⟨[],.nil,by rw[tdL]; exact Sd _⟩
     | cons u us ih =>
      intro rl he
      cases rl with
      | @cons _ e _ es r1 r2 =>
       obtain⟨t,t1,t2⟩:=MK n r1 (he e Rc)
       obtain⟨ts,t3,t4⟩:=ih r2 fun x hx=>he x (Ri _ hx)
       exact⟨t::ts,.cons t1 t3,by rw[tdL]; lia⟩
    rw[VF] at hk
    have go:∀ (z:Str),cY ds z=true->∃ (b:Addr) (us:List V) (ts:List Tm),xs=[.str z,.ref b]/\H b=some (.tup us)/\2<=us.length/\us.length<=6/\cM 12 H us ts/\tdL ts<=n:=fun z hk=>by
     obtain⟨us,es,rfl,rfl,rl'⟩:=rT rl hk n0
     obtain⟨u1,e1,rfl,rfl,r1⟩:=rl1 rl' (X7 h3)
     ·skip
      have h4:arP (isT 12 n) e1=true:=h4
      cases r1 with
      | @tup b vs fs hb hl rr =>
       unfold arP at h4
       dsimp only at h4
       rw[Rp] at h4
       obtain⟨ts,t1,t2⟩:=parts (b:=b) rr (List.all_eq_true.mp h4.2)
       have h5:=h4.1
       unfold isNum at h5
       rw[Rp,decide_eq_true_eq,decide_eq_true_eq] at h5
       have l:=rr.length
       exact⟨b,vs,ts,rfl,hb,by lia,by lia,t1,t2⟩
      | _=>cases h4
    rcases hk with hk | hk
    ·obtain⟨b,us,ts,rfl,hb,l2,l6,rt,td⟩:=go _ hk
     exact⟨.all ts,.all ha hb l2 l6 rt,by rw[Tm.dep]; lia⟩
    ·obtain⟨b,us,ts,rfl,hb,l2,l6,rt,td⟩:=go _ hk
     exact⟨.any ts,.any ha hb l2 l6 rt,by rw[Tm.dep]; lia⟩
   ·cases h
  | _ =>
   rw[isT] at h
   ·cases h
   all_goals simp
theorem Lz {l:List Nat} {d:Dm} (h:rdT l=some d):rdW 4 l=some d/\isT 12 4 d=true:=by
 unfold rdT at h
 exact (Option.filter_eq_some_iff.mp h)
theorem uQ {f C:Addr} {fd:Tp} {t1 t2:ZK} (F:Fun K "read_term" "read_term" kh f fd) (B:Bt mg) (c_MOST_DEPTH:mg "MOST_DEPTH" = some (.int 4 t1)) (c_MOST_FOLK:mg "MOST_FOLK" = some (.int 12 t2))
  (D_read_within:Dx P w K mg base "read_within" 11 ["text","deep"] (Kq C 5)) (D_is_term:Df P w K mg base "is_term" 12 ["many","term"] uH) (X_BadText:Xc P w K mg base "BadText" C "bad text"):dB P w K mg base (XL P w) 13 f fd ["text"] (rJ C rdT Rep):=by
 refine F.okX n8 (fun vs H Q E h=>?_) (fun cdv A outer s H vs Q E hr h=>?_)
 ·obtain⟨l,rfl,_⟩:=h
  rfl
 ·obtain⟨l,rfl,tx,q,hbad⟩:=h
  refine⟨_,(au (aU (i:=1) n8.nd rfl (RJ rfl) (my D_read_within hr cW (aa (pv 0) (aa (lD c_MOST_DEPTH) ao))))
 (au (bu (dH (dq (bF D_is_term hr (aa (lD c_MOST_FOLK) (aa (pv 1) ao))))) (aA (iR X_BadText hr rfl gj)) aM)
 (aA (aJ (pv 1))))),?_⟩
  refine⟨_,rfl,l,4,rfl,by decide,tx,fun d hd v H1 s1 rv=>?_,fun hn=>hbad (by unfold rdT; rw[hn]; rfl)⟩
  refine⟨_,rfl,v,d,12,rfl,rv,sI 4 tx.2 hd,fun H2 s2=>⟨_,rfl,?_⟩⟩
  by_cases ht:isT 12 4 d=true
  ·rw[ht]
   exact dF ⟨_,rfl,q d (by unfold rdT; rw[hd,Vg,if_pos ht]) v H2 (s1.trans s2) (rv.mono s2)⟩
  ·rw[Bool.eq_false_iff.mpr ht]
   exact bR (cV (s1.trans s2) (hbad (by unfold rdT; rw[hd,Vg,if_neg ht])))
abbrev pM:Stmt:=top 20
abbrev jZ:Stmt:=top 21
abbrev j8:Stmt:=top 31
abbrev iT:Stmt:=top 32
theorem mO:aV ["many","one","thing","lowest_step","step","term"] ["many","one","thing","lowest_step"] (aB pM):=⟨rfl,rfl,rfl,by decide+kernel,rfl,by decide+kernel,by decide+kernel⟩
theorem gJ:aV ["many","one","thing","lowest_step","rung"] ["many","one","thing"] (aB jZ):=⟨rfl,rfl,rfl,by decide+kernel,rfl,by decide+kernel,by decide+kernel⟩
theorem gP:aV ["text","step","sign","term"] ["text"] (aB j8):=⟨rfl,rfl,rfl,by decide+kernel,rfl,by decide+kernel,by decide+kernel⟩
theorem jV:aV ["text","pledge"] ["text"] (aB iT):=⟨rfl,rfl,rfl,by decide+kernel,rfl,by decide+kernel,by decide+kernel⟩
theorem zf (x:Int):∀ ns:List Int,inV (.int x) (ns.map V.int)=decide (x∈ns)
 | []=>by rw[decide_eq_false (by simp)]; rfl
 | n::r=>by
  have ih:=zf x r
  show (eqV (.int n) (.int x) || inV (.int x) (r.map V.int))=_
  rw[ih]
  have e:eqV (.int n) (.int x)=(n == x):=rfl
  rw[e,Td]
  simp only[VF,decide_eq_true_eq,Tu,beq_iff_eq]
  exact⟨fun h=>h.elim (fun z=>.inl z.symm) .inr,fun h=>h.elim (fun z=>.inl z.symm) .inr⟩
theorem NT {c:List Nat} {ms:List Int} (h:nmI c ms) (x:Nat):(x:Int)∈ms ↔ x∈c:=by
 obtain⟨p,_⟩:=h
 rw[p.mem_iff,rR,DR]
 constructor
 ·rintro (h | h)
  ·cases h
  ·obtain⟨y,hy,e⟩:=List.mem_map.mp h
   have:x=y:=by lia
   rw[this]
   exact hy
 ·exact fun h=>.inr (List.mem_map.mpr ⟨x,h,rfl⟩)
theorem Hq (ns:List Int):(ns.map V.int).all rn=true:=by
 rw[Xj]
 exact List.all_eq_true.mpr fun _ _=>rfl
def Qe:Sp:=fun vs H Q _=>∃ (v:V) (r:Nat × Dm) (lo:Nat),vs=[.int 12,.int 12,v,.int (lo:Int)]/\Rep H v (rgD r)/\isT 12 4 r.2=true/\pd r.2=true/\∀ H',bc H H'->Q (.bl (decide (lo<=r.1/\r.1<=9))) H'
theorem Dd (n lo:Nat):isNum (dI n) (lo:Int) 9=decide (lo<=n/\n<=9):=by
 rw[Td]
 unfold isNum dI
 rw[Rp,decide_eq_true_eq,decide_eq_true_eq,decide_eq_true_eq]
 lia
theorem Ah {k:Nat} {t1:ZK} (F:Fun K "is_rung" "is_rung" pM f fd) (B:Bt mg) (c_MOST_STEP:mg "MOST_STEP" = some (.int 9 t1)) (hk:5<=k)
  (D_is_number:Df P w K mg base "is_number" 1 ["thing","low","high"] kZ) (D_is_term:Df P w K mg base "is_term" k ["many","term"] uH) (D_named:Df P w K mg base "named" 5 ["term"] Eo):dB P w K mg base CX0 (k+1) f fd ["many","one","thing","lowest_step"] Qe:=by
 refine F.ok mO (fun vs H Q E h=>?_) (fun cdv A outer s H vs Q E hr h=>?_)
 ·obtain⟨v,r,lo,rfl,_⟩:=h
  rfl
 ·obtain⟨v,⟨n,d⟩,lo,rfl,rv,ht,hp,q⟩:=h
  refine⟨_,(au (bu (PW.pt (dW (dH (dq (aG (r:=uP K) cz rfl B.isinstance_ aW (aa (pv 2) (aa (jB B.tuple_ bJ) ao))))) (dY (aD rM (aG (r:=nZ K) bf rfl B.len_ bW (aa (pv 2) ao)) aq (aK _))))) (aA (aJ lr)) aM)
 (au (sO (pv 2) (f9 (K:=K) 2 rfl rfl (bz (aN (i:=4) mO.nd rfl (RJ rfl)) (bz (aN (i:=5) mO.nd rfl (RJ rfl)) fY))))
 (aA (aJ (eV (bF D_is_number hr (aa (pv 4) (aa (pv 3) (aa (lD c_MOST_STEP) ao)))) (eV (bF D_is_term hr (aa (pv 0) (aa (pv 5) ao))) (jW (cR (r:=rIn K true) vO (pv 1) (bF D_named hr (aa (pv 5) ao)) rfl)))))))),?_⟩
  dsimp only [rgD] at rv ht hp q ⊢
  match v,rv with
  | .ref r,.tup (xs:=xs) hr0 hl rl =>
   match xs,rl with
   | [_,u],.cons (.int _) (.cons r2 .nil) =>
    refine⟨_,rfl,_,_,_,_,rfl,.tup hr0,jO _ _,_,rfl,dF ⟨_,rfl,r,_,rfl,.inr (SqT.of hr0),rfl,_,rfl,jf rfl ?_⟩⟩
    refine⟨_,rfl,r,_,rfl,SqT.of hr0,rfl,_,_,rfl,_,_,rfl,rfl,?_⟩
    refine⟨_,rfl,_,rfl,.int _,dI n,(lo:Int),9,rfl,.int _,rfl,_,rfl,?_⟩
    rw[Dd]
    by_cases c:lo<=n/\n<=9
    ·rw[decide_eq_true c] at q ⊢
     refine bR ?_
     obtain⟨t,rt,td⟩:=MK 4 r2 ht
     refine⟨_,rfl,_,rfl,u,d,12,rfl,r2,hp,fun H1 s1=>⟨_,rfl,?_⟩⟩
     rw[ht]
     refine bR ?_
     refine⟨_,rfl,_,rfl,u,12,t,rfl,rt.mono s1,td,by decide,fun r1 ms H2 s2 f2 nm e2=>?_⟩
     refine⟨r1,_,rfl,.inl (SqL.of e2),rfl,Hq ms,?_⟩
     have q':=q H2 (s1.trans s2)
     have z12:¬ (12:Int)∈ms:=fun z=>absurd (K5 rt 12 ((NT nm 12).mp z)) (by decide)
     rw[zf,decide_eq_false z12]
     exact q'
    ·rw[decide_eq_false c] at q ⊢
     exact dF (q H (bc.refl H))
def Qg:Sp:=fun vs H Q _=>∃ (v:V) (rs:List (Nat × Dm)),vs=[.int 12,.int 12,v]/\Rep H v (plD rs)/\rs≠[]/\(∀ r∈rs,isT 12 4 r.2=true/\pd r.2=true)/\∀ H',bc H H'->Q (.bl (decide (rs.length<=9/\ym 1 rs=true))) H'
theorem vI {k:Nat} {t1:ZK} (F:Fun K "is_pledge" "is_pledge" jZ f fd) (B:Bt mg) (c_MOST_RUNGS:mg "MOST_RUNGS" = some (.int 9 t1)) (hk:1<=k)
  (D_is_number:Df P w K mg base "is_number" 1 ["thing","low","high"] kZ) (D_is_rung:Df P w K mg base "is_rung" k ["many","one","thing","lowest_step"] Qe):dB P w K mg base CX0 (k+1) f fd ["many","one","thing"] Qg:=by
 refine F.ok gJ (fun vs H Q E h=>?_) (fun cdv A outer s H vs Q E hr h=>?_)
 ·obtain⟨v,rs,rfl,_⟩:=h
  rfl
 ·obtain⟨v,rs,rfl,rv,hne,good,q⟩:=h
  refine⟨_,(au (bu (PW.pt (dW (dH (dq (aG (r:=uP K) cz rfl B.isinstance_ aW (aa (pv 2) (aa (jB B.tuple_ bJ) ao))))) (dY (dH (dq (bF D_is_number hr (aa (aG (r:=nZ K) bf rfl B.len_ bW (aa (pv 2) ao)) (aa aq (aa (lD c_MOST_RUNGS) ao))))))))) (aA (aJ lr)) aM)
 (au (aU (i:=3) gJ.nd rfl (RJ rfl) aq)
 (au (gC TX rfl (iZ (pv 2)) (aN (i:=4) gJ.nd rfl (RJ rfl)) (au (bu (dH (dq (bF D_is_rung hr (aa (pv 0) (aa (pv 1) (aa (pv 4) (aa (pv 3) ao))))))) (aA (aJ lr)) aM)
 (aA (aU (i:=3) gJ.nd rfl (RJ rfl) (aL bK (aQ (r:=jd K) bH (pv 4) aq (fun _ _=>rfl)) aq)))))
 (aA (aJ lr))))),?_⟩
  unfold plD at rv
  match v,rv with
  | .ref a,.tup (xs:=us) ha hl rl =>
   have el:=rl.length
   rw[Q8] at el
   have l1:1<=rs.length:=by
    cases rs with
    | nil=>exact absurd rfl hne
    | cons _ _=>rw[Rg]; lia
   refine⟨_,rfl,_,_,_,_,rfl,.tup ha,jO _ _,_,rfl,dF ⟨_,rfl,a,_,rfl,.inr (SqT.of ha),.int (us.length:Int),dI us.length,1,9,rfl,.int _,rfl,_,rfl,?_⟩⟩
   rw[show isNum (dI us.length) 1 9=_ from Dd us.length 1]
   by_cases c:rs.length<=9
   ·rw[decide_eq_true (show 1<=us.length/\us.length<=9 by lia)]
    refine dF ⟨_,rfl,a,rfl,⟨_,SqT.of ha⟩,uh (K:=K) (a:=a) (xs:=us) (fun i σ H2=>bc H H2/\∃ (lo:Nat) (u:Option V),σ=[some (.int 12),some (.int 12),some (.ref a),some (.int (lo:Int)),u]/\ym lo (rs.drop i)=ym 1 rs)
     ⟨bc.refl H,1,_,rfl,by rw[V8]⟩ (fun i σ H2 _ h=>SqT.of (h.1 _ _ ha)) ?_ ?_⟩
    ·rintro i x σ H2 hx ⟨sm,lo,u,rfl,er⟩
     have hi:i < rs.length:=by
      have:=(List.getElem?_eq_some_iff.mp hx).1
      lia
     obtain⟨y,hy,ry⟩:=sV rl (k:=i) (by rw[Q8]; exact hi)
     rw[hx] at hy
     cases hy
     rw[RZ,Rz,Rn hi] at ry
     replace ry:Rep H x (rgD rs[i]):=ry
     obtain⟨g1,g2⟩:=good rs[i] (Wb hi)
     rw[Wc hi,ym] at er
     refine⟨_,rfl,_,rfl,_,rfl,_,rfl,x,rs[i],lo,rfl,ry.mono sm,g1,g2,fun H3 s3=>⟨_,rfl,?_⟩⟩
     by_cases e:lo<=rs[i].1/\rs[i].1<=9
     ·rw[decide_eq_true e,Tq] at er
      rw[decide_eq_true e]
      have ry3:=(ry.mono sm).mono s3
      generalize rs[i]=r0 at ry3 er
      obtain⟨n0,d0⟩:=r0
      match x,ry3 with
      | .ref r,.tup (xs:=ys) hr0 _ rl3 =>
       match ys,rl3 with
       | [_,u2],.cons (.int _) (.cons _ .nil) =>
        exact dF ⟨_,rfl,r,_,_,_,rfl,rfl,SqT.of hr0,aF (k:=0) rfl,_,_,rfl,rfl,sm.trans s3,n0+1,_,rfl,er⟩
     ·rw[decide_eq_false e,TY] at er
      rw[decide_eq_false e]
      have q':=q H3 (sm.trans s3)
      rw[decide_eq_false (fun z=>by rw[← er] at z; cases z.2)] at q'
      exact bR q'
    ·rintro σ H2 ⟨sm,lo,u,rfl,er⟩
     rw[el,W9,ym] at er
     have q':=q H2 sm
     rw[decide_eq_true (show rs.length<=9/\ym 1 rs=true from ⟨c,er.symm⟩)] at q'
     exact q'
   ·rw[decide_eq_false (show ¬ (1<=us.length/\us.length<=9) by lia)]
    have q':=q H (bc.refl H)
    rw[decide_eq_false (show ¬ (rs.length<=9/\ym 1 rs=true) by lia)] at q'
    exact bR q'
theorem Ky {c:Nat} {a:List Nat} (h:c ∉ a):Wf (S a) (S [c])=(S a,S [],S []):=by
 unfold Wf
 rcases StrLaws.occ_head (S a) (S [c]) 1 (Rh _) with⟨h1,_⟩ | ⟨i,_,_,h2,_⟩
 ·rw[h1]
  rfl
 ·exact absurd (RL ((ou _ _ _).mp h2)) h
theorem Ir (c:Nat) (l:List Nat):∃ x:List Nat,Wf (S l) (S [c])=(S (ptH c l).1,S x,S (ptH c l).2)/\Inf (ptH c l).1 l/\Inf (ptH c l).2 l:=by
 unfold ptH
 cases e:ptL c l with
 | none=>exact⟨[],Ky (uy e),Inf.refl l,⟨l,[],by simp⟩⟩
 | some ab =>
  obtain⟨a,b⟩:=ab
  obtain⟨rfl,ha⟩:=tO e
  exact⟨[c],Kg ha,⟨[],c::b,rfl⟩,⟨a++[c],[],by simp⟩⟩
def rRg (H:Hp) (v:V) (r:Nat × Dm):Prop:=Rep H v (rgD r)
theorem vU {f C:Addr} {fd:Tp} (F:Fun K "read_rung" "read_rung" j8 f fd) (B:Bt mg)
  (D_read_number:Dx P w K mg base "read_number" 4 ["text"] (rJ C cZ KR)) (D_read_term:Dx P w K mg base "read_term" 13 ["text"] (rJ C rdT Rep)):dB P w K mg base (XL P w) 14 f fd ["text"] (rJ C rdR rRg):=by
 refine F.okX gP (fun vs H Q E h=>?_) (fun cdv A outer s H vs Q E hr h=>?_)
 ·obtain⟨l,rfl,_⟩:=h
  rfl
 ·obtain⟨l,rfl,tx,q,hbad⟩:=h
  refine⟨_,(au (sO (gA Sq PySem.F.slot_str_partition PySem.F.type_str_partition Jy (pv 0) (aa aC ao)) (f9 (K:=K) 3 rfl rfl (bz (aN (i:=1) gP.nd rfl (RJ rfl)) (bz (aN (i:=2) gP.nd rfl (RJ rfl)) (bz (aN (i:=3) gP.nd rfl (RJ rfl)) fY)))))
 (aA (aJ (bh (aa (my D_read_number hr cW (aa (pv 1) ao)) (aa (my D_read_term hr cW (aa (pv 3) ao)) ao)))))),?_⟩
  have tl:=tx.2
  unfold rdR at q hbad
  obtain⟨x1,r1,i1,i2⟩:=Ir 63 l
  refine⟨_,rfl,rfl,_,_,rfl,rfl,rfl,dj (by lia),fun p1 h1=>?_⟩
  rw[zY,r1]
  generalize ptH 63 l=hs at q hbad i1 i2 ⊢
  obtain⟨hd,st⟩:=hs
  dsimp only at q hbad i1 i2 ⊢
  generalize eH1:upd H p1 _=H1
  obtain⟨g1,e1⟩:=aH eH1 h1
  refine⟨p1,_,rfl,SqT.of e1,rfl,_,_,rfl,_,_,rfl,_,_,rfl,rfl,?_⟩
  refine⟨_,rfl,hd,rfl,tx.inf i1,fun n hn v H2 s2 hv=>?_,fun hn=>cV g1 (hbad (by rw[hn]; rfl))⟩
  cases hv
  refine⟨_,rfl,st,rfl,tx.inf i2,fun d hd' v H3 s3 rv=>?_,fun hd'=>cV (g1.trans s2) (hbad (by rw[hn,hd']; rfl))⟩
  refine⟨small (by show 2<=1000; decide),fun p hp=>q (n,d) (by rw[hn,hd']; rfl) (.ref p) _ (g1.trans (s2.trans (s3.trans (az hp _)))) ?_⟩
  exact .tup aj (show 2<=100000 by decide) (.cons (.int _) (.cons (rv.mono (az hp _)) .nil))
theorem t6 {l:List Nat} {r:Nat × Dm} (t:Tx l) (h:rdR l=some r):isT 12 4 r.2=true/\pd r.2=true:=by
 unfold rdR at h
 obtain⟨n,_,h⟩:=Option.bind_eq_some_iff.mp h
 obtain⟨d,h2,rfl⟩:=Option.map_eq_some_iff.mp h
 obtain⟨h3,h4⟩:=Lz h2
 obtain⟨_,_,_,i2⟩:=Ir 63 l
 exact⟨h4,sI 4 (t.inf i2).2 h3⟩
theorem GC {r:Nat × Dm} (h:pd r.2=true):pd (rgD r)=true:=Hr (by show 2<=200000; decide) (qg fun d hd=>by
 rcases List.mem_cons.mp hd with rfl | hd
 ·rfl
 ·rw[List.mem_singleton.mp hd]; exact h)
theorem rG {f C:Addr} {fd:Tp} {t2:ZK} (F:Fun K "read_pledge" "read_pledge" iT f fd) (B:Bt mg) (c_MOST_FOLK:mg "MOST_FOLK" = some (.int 12 t2))
  (D_read_rung:Dx P w K mg base "read_rung" 14 ["text"] (rJ C rdR rRg)) (D_is_pledge:Df P w K mg base "is_pledge" 14 ["many","one","thing"] Qg) (X_BadText:Xc P w K mg base "BadText" C "bad text"):dB P w K mg base (XL P w) 15 f fd ["text"] (rJ C Hj Rep):=by
 refine F.okX jV (fun vs H Q E h=>?_) (fun cdv A outer s H vs Q E hr h=>?_)
 ·obtain⟨l,rfl,_⟩:=h
  rfl
 ·obtain⟨l,rfl,tx,q,hbad⟩:=h
  refine⟨_,(au (aU (i:=1) jV.nd rfl (RJ rfl) (aX (r:=gq K) bD rfl B.tuple_ bJ (aa (uM (L:=["row"]) (F:=[]) (cap:=[]) ⟨rfl,rfl⟩ rfl (fun _ _ z=>z) rfl (bU rfl rfl (by kernel_rfl)) (fD (gA Sq Ux Uw iB (pv 0) (aa aC ao))) (fun _ _ _ _ _=>(aN (i:=0) (bM (by decide+kernel)) rfl (RJ rfl))) (fun _ _ _ _ _=>cF) (fun _ _ _ _ _ _ px=>(my D_read_rung hr px (aa (pv 0) ao)))) ao)))
 (au (bu (dH (dq (bF D_is_pledge hr (aa (lD c_MOST_FOLK) (aa (lD c_MOST_FOLK) (aa (pv 1) ao)))))) (aA (iR X_BadText hr rfl gj)) aM)
 (aA (aJ (pv 1))))),?_⟩
  have l1:=fO 44 l
  have tl:=tx.2
  unfold Hj at q hbad
  refine⟨_,rfl,rfl,_,_,rfl,rfl,rfl,?_,?_,fun p1 h1=>?_⟩
  ·rw[cA]
   lia
  ·rw[mK,dZ,Q8]
   lia
  ·rw[mK,dZ]
   generalize eH1:upd H p1 _=H1
   obtain⟨g1,e1⟩:=aH eH1 h1
   refine⟨p1,rfl,⟨_,SqL.of e1⟩,fun D hD=>eX (K:=K) (a:=p1) (xs:=((spl 44 l).map S).map V.str) (fun i zs σ' H2=>(∃ u,σ'=[u])/\(∃ rs,dX rdR ((spl 44 l).take i)=some rs/\eN H2 zs (rs.map rgD))/\bc H1 H2/\H2 D=some (.lst zs))
    ⟨⟨_,rfl⟩,⟨[],rfl,.nil⟩,az hD _,aj⟩ (fun i zs σ' H2 _ h=>⟨SqL.of (h.2.2.1 _ _ e1),h.2.2.2⟩) ?_ ?_⟩
   ·rintro j zs x σ' H2 hx ⟨⟨u,rfl⟩,⟨rs,ed,rz⟩,sm,hDl⟩
    rw[Rz,Rz] at hx
    cases hi:(spl 44 l)[j]? with
    | none=>rw[hi] at hx; cases hx
    | some y =>
     rw[hi] at hx
     have hx:V.str (S y)=x:=RQ hx
     subst hx
     obtain⟨t1,t2⟩:=jo ed hi
     have iy:=gm (RL hi)
     have nl:=cg ed
     rw[RN] at nl
     refine gT ?_
     refine⟨_,rfl,y,rfl,tx.inf iy,fun r hr' v H3 s3 rv=>?_,fun hn=>cV (g1.trans sm) (hbad (by rw[t2 hn]; rfl))⟩
     refine⟨s3 _ _ hDl,?_,⟨_,rfl⟩,⟨rs++[r],t1 r hr',?_⟩,aY (sm.trans s3) hD _,aj⟩
     ·have:=rz.length
      rw[Q8] at this
      exact Sw (show _<=100000 by lia) (by decide)
     ·have k:∀ a xs,H3 a=some (HO.tup xs)->upd H3 D (.lst (zs++[v])) a=some (HO.tup xs):=eO (s3 _ _ hDl)
      rw[Rx]
      exact lM (qw k (rz.mono s3) (qg fun z hz=>by
       obtain⟨r0,hr0,rfl⟩:=List.mem_map.mp hz
       obtain⟨p,hp,ep⟩:=fc ed r0 hr0
       exact GC (t6 (tx.inf (gm (Vo hp))) ep).2)) (.cons (vG k rv (GC (t6 (tx.inf iy) hr').2)) .nil)
   ·rintro zs σ' H2 ⟨_,⟨rs,ed,rz⟩,sm,hDl⟩
    rw[Q8,Q8,R6] at ed
    have lz:=rz.length
    have ls:=cg ed
    rw[Q8] at lz
    refine⟨D,_,rfl,.inl ⟨SqL.of hDl,fun pt hpt=>?_⟩⟩
    have hne:rs≠[]:=fun z=>by
     rw[z] at ls
     exact fG 44 l (List.length_eq_zero_iff.mp ls.symm)
    have rp:Rep (upd H2 pt (.tup zs)) (.ref pt) (plD rs):=.tup aj (by lia) (rz.mono (az hpt _))
    have good:∀ r∈rs,isT 12 4 r.2=true/\pd r.2=true:=fun r hr0=>by
     obtain⟨p,hp,ep⟩:=fc ed r hr0
     exact t6 (tx.inf (gm hp)) ep
    have gs:=g1.trans (sm.trans (az hpt (.tup zs)))
    refine⟨_,rfl,.ref pt,rs,rfl,rp,hne,good,fun H3 s3=>⟨_,rfl,?_⟩⟩
    by_cases c:rs.length<=9/\ym 1 rs=true
    ·rw[decide_eq_true c]
     exact dF ⟨_,rfl,q (plD rs) (by rw[ed]; exact if_pos c) _ H3 (gs.trans s3) (rp.mono s3)⟩
    ·rw[decide_eq_false c]
     exact bR (cV (gs.trans s3) (hbad (by rw[ed]; exact if_neg c)))
def oV:Option Nat->V
 | none=>.non
 | some n=>vN n
theorem t7 {α β:Type} {f:α->Option β}:∀ {l:List α} {ys:List β},dX f l=some ys->l.map f=ys.map some
 | [],_,e=>by cases e; rfl
 | x::r,ys,e=>by
  obtain⟨a,b,h1,h2,rfl⟩:=mJ e
  rw[Tv,Tv,h1,t7 h2]
theorem Dk {α β:Type} {f:α->Option β} {l:List α} (e:dX f l=none):∃ x∈l,f x=none:=Classical.byContradiction fun h=>by
 obtain⟨ys,e2⟩:=BK (l:=l) (f:=f) fun x hx=>by
  cases ex:f x with
  | none=>exact absurd ⟨x,hx,ex⟩ h
  | some y=>exact⟨y,rfl⟩
 rw[e] at e2
 cases e2
theorem Fe (os:List (Option Nat)):(os.map oV).all rn=true:=by
 rw[Xj]
 refine List.all_eq_true.mpr fun o _=>?_
 cases o <;> rfl
theorem Pk (os:List (Option Nat)):inV .non (os.map oV)=decide (none∈os):=by
 induction os with
 | nil=>rfl
 | cons o r ih =>
  show (eqV (oV o) .non || inV .non (r.map oV))=_
  rw[ih,Td,VF,decide_eq_true_eq,decide_eq_true_eq,Tu]
  cases o with
  | none=>exact⟨fun _=>.inl rfl,fun _=>.inl rfl⟩
  | some n=>exact⟨fun h=>h.elim (fun z=>by cases z) .inr,fun h=>h.elim (fun z=>by cases z) .inr⟩
theorem Nb (ps:List (List Nat)):inV .non ((ps.map cZ).map oV)=decide (dX cZ ps=none):=by
 rw[Pk]
 refine decide_eq_decide.mpr ⟨fun h=>?_,fun h=>?_⟩
 ·obtain⟨x,hx,e⟩:=List.mem_map.mp h
  exact jr hx e
 ·obtain⟨x,hx,e⟩:=Dk h
  exact List.mem_map.mpr ⟨x,hx,e⟩
theorem LK {ps:List (List Nat)} {ns:List Nat} (h:dX cZ ps=some ns):(ps.map cZ).map oV=ns.map vN:=by
 rw[t7 h,Vq]
 rfl
theorem vQ:∀ a b:List Int,tV (a.map Dm.int) (b.map Dm.int)=decide (a=b)
 | [],[]=>by rw[decide_eq_true rfl]; rfl
 | [],_::_=>by rw[decide_eq_false (by simp)]; rfl
 | _::_,[]=>by rw[decide_eq_false (by simp)]; rfl
 | x::a,y::b=>by
  rw[Tv,Tv,tV,vQ a b,eqD,Td]
  simp
theorem EY (ns:List Nat):(ns.map fun n:Nat=>(n:Int)).Pairwise (· < ·) ↔ ns.Pairwise (· < ·):=by
 rw[VL]
 exact⟨fun h=>h.imp fun z=>by lia,fun h=>h.imp fun z=>by lia⟩
theorem uA (ns:List Nat):ns.map vN=(ns.map fun n:Nat=>(n:Int)).map V.int:=by
 rw[Vq]
 rfl
theorem Le {l:List Nat} {ns:List Nat} (p:PR 47 l) (h:rdC l=some ns):ns.length<=48:=by
 have h1:=cg h
 have h2:=Dg l
 have h3:=p [] l [] (by simp) (o9 h)
 lia
theorem yH {ns:List Int} (h:ns.length<=48):(ddI ns).length < 64:=by
 rw[rR]
 have:=yS ns []
 rw[Yp] at this
 lia
theorem pF {α:Type} {d:α}:∀ {l:List α},l≠[]->l[0]? = some (l.headD d)
 | [],h=>absurd rfl h
 | _::_,_=>rfl
theorem yh {α:Type} {d:α} {l:List α} (h:l≠[]):l[l.length - 1]? = some (l.getLastD d):=by
 rcases Vi l with rfl | ⟨r,x,rfl⟩
 ·exact absurd rfl h
 ·rw[Vj,List.getLastD_concat,Rf,Rk,Wt,Ua (Rh _),Zv]
  rfl
theorem head_mem {α:Type} {d:α} {l:List α} (h:l≠[]):l.headD d∈l:=RL (pF h)
theorem lG {α:Type} {d:α} {l:List α} (h:l≠[]):l.getLastD d∈l:=RL (yh h)
theorem yM {ps:List (List Nat)} {i:Nat} {p:List Nat} (h:ps[i]? = some p):((ps.map S).map V.str)[i]? = some (.str (S p)):=by
 rw[Rz,Rz,h]
 rfl
theorem yw {ps:List (List Nat)} (h:ps≠[]):atI ((ps.map S).map V.str) (-1)=some (V.str (S (ps.getLastD []))):=Dr (by
 rw[Q8,Q8,Rz,Rz,yh (d:=[]) h]
 rfl)
def Ty (l:List Nat):Prop:=Tx l/\PR 47 l
theorem Ty.inf {p l:List Nat} (h:Inf p l) (t:Ty l):Ty p:=⟨t.1.inf h,h.pr t.2⟩
abbrev ju:Stmt:=top 45
abbrev j4:Stmt:=top 46
theorem tQ:aV ["_law_text"] ["_law_text"] (aB ju):=⟨rfl,rfl,rfl,by decide+kernel,rfl,by decide+kernel,by decide+kernel⟩
theorem dh:aV ["_law_text","_law_parts","_law_head","_law_row","_law_step","_law_many","_law_good"] ["_law_text"] (aB j4):=⟨rfl,rfl,rfl,by decide+kernel,rfl,by decide+kernel,by decide+kernel⟩
def Ia {β:Type} (T:List Nat->Prop) (f:List Nat->Option β) (R:Hp->V->β->Prop):Sp:=fun vs H Q _=>∃ l:List Nat,vs=[.str (S l)]/\T l/\(∀ b,f l=some b->∀ v H',bc H H'->R H' v b->Q v H')/\(f l=none->∀ H',bc H H'->Q .non H')
theorem Od:(("0123456789" : String):Str)=S rF:=by decide+kernel
theorem ux (F:Fun K "_law_number" "_law_number" ju f fd) (B:Bt mg):dB P w K mg base CX0 1 f fd ["_law_text"] (Ia Tx cZ KR):=by
 refine F.ok tQ (fun vs H Q E h=>?_) (fun cdv A outer s H vs Q E hr h=>?_)
 ·obtain⟨l,rfl,_⟩:=h
  rfl
 ·obtain⟨l,rfl,⟨ha,hl⟩,q,qn⟩:=h
  refine⟨_,(au (bu (PW.pt (dW (aD cD (pv 0) aC (aK _)) (dW (dH (dq (aG (r:=El K) (lE rfl) rfl B.all_ zg (aa (eG (L:=["_law_sign"]) (F:=[]) (cap:=[]) rfl (bU rfl rfl (by kernel_rfl)) (Ef (pv 0)) (fun _ _ _ _ _=>(aN (i:=0) (bM (by decide+kernel)) rfl (RJ rfl))) (fun _ _ _ _ _=>cF) (fun _ _ _ _ _=>(cR lu (pv 0) aC rfl))) ao)))) (dY (aD uG (aG dM rfl B.len_ bW (aa (pv 0) ao)) aq (aK _)))))) (aA (aJ gK)) aM)
 (aA (aJ (gR (PW.pt (dW (aD cD (pv 0) aC (aK _)) (dY (aD rM (aQ (r:=K8) yN (pv 0) aq (fun _ _=>rfl)) aC (aK _))))) (aX (r:=Jj) vp rfl B.int_ jR (aa (pv 0) ao)) gK)))),?_⟩
  refine⟨_,rfl,rfl,_,rfl,?_⟩
  by_cases h0:l=[]
  ·exact lY (nO sW h0) (bR (qn (if_neg fun z=>by rw[h0] at z; exact absurd z.1.1 (by decide)) H (bc.refl H)))
  refine dU (yJ sW h0) ?_
  have l1:1<=l.length:=by
   cases l with
   | nil=>exact absurd rfl h0
   | cons _ _=>rw[Rg]; lia
  refine⟨_,rfl,S l,rfl,G6 ha,fun D hD=>yO (x:=S l) (fun i zs σ' H2=>(∃ u,σ'=[u])/\zs=((l.take i).map fun x=>decide (x∈rF)).map V.bl/\bc H H2/\H2 D=some (.lst zs)/\i<=l.length)
   ⟨⟨_,rfl⟩,rfl,az hD _,aj,Sd _⟩ (fun i zs σ' H2 _ h=>h.2.2.2.1) ?_ ?_⟩
  ·rintro i zs σ' H2 hi ⟨⟨u,rfl⟩,e1,sm,hDl,_⟩
   rw[nT] at hi
   rw[Om hi]
   refine gT ?_
   refine⟨_,rfl,_,_,rfl,rfl,hDl,?_,⟨_,rfl⟩,?_,aY sm hD _,aj,hi⟩
   ·rw[e1,Q8,Q8,RN]
    exact Sw (show _<=90000 by lia) (by decide)
   ·rw[e1,Od,yF,SJ,Rn hi,Rx,Rx]
    rfl
  ·rintro zs σ' H2 ⟨_,e1,sm,hDl,_⟩
   rw[nT,R6] at e1
   refine⟨D,_,rfl,SqL.of (by rw[hDl,e1]),_,rfl,?_⟩
   rw[yE]
   by_cases hf:∀ x∈l,x∈rF
   ·rw[decide_eq_true hf]
    refine dF ?_
    refine⟨_,rfl,_,rfl,dj (by lia),_,_,rfl,rfl,_,rfl,?_⟩
    refine jG (fun cc=>?_) (fun cc=>?_)
    ·have cc:((S l).length:Int) > 9:=of_decide_eq_true cc
     rw[cA] at cc
     exact qn (if_neg fun z=>by have:=z.1.2; lia) H2 sm
    ·have cc:¬ ((S l).length:Int) > 9:=fun y=>cc (decide_eq_true y)
     rw[cA] at cc
     have fin:¬ (l.head? = some 48/\1 < l.length)->∀ H3,bc H H3->Yx (S l)=some (Fi l:Int)/\(S l).length<=640/\Q (.int (Fi l:Int)) H3:=fun h0 H3 s3=>⟨Dz hf l1 (by lia),by rw[cA]; lia,q (Fi l) (if_pos ⟨⟨l1,by lia⟩,hf,h0⟩) _ H3 s3 rfl⟩
     refine⟨_,rfl,rfl,_,rfl,?_⟩
     by_cases hn:l=[48]
     ·refine lY (nO jK hn) (bR ?_)
      exact⟨_,rfl,_,_,rfl,fin (fun y=>by rw[hn] at y; exact absurd y.2 (by decide)) H2 sm⟩
     ·refine dU (yJ jK hn) ?_
      obtain⟨c,hc⟩:∃ c,l[0]? = some c:=⟨_,Rn (by lia)⟩
      refine⟨_,rfl,S l,0,c,rfl,rfl,dj (by lia),iI (xs:=l) hc,rfl,_,rfl,?_⟩
      by_cases e:c=48
      ·subst e
       have lh:l.head? = some 48:=by rw[WL,hc]
       refine jf (by rw[jK,decide_eq_true rfl]; rfl) ?_
       refine qn (if_neg fun z=>z.2.2 ⟨lh,?_⟩) H2 sm
       refine Classical.byContradiction fun y=>hn ?_
       cases l with
       | nil=>exact absurd rfl h0
       | cons x r =>
        cases r with
        | nil=>rw[RQ (show some x=some 48 from hc)]
        | cons _ _=>exact absurd (show 1 < _ by simp) y
      ·refine Ba (by rw[jK,decide_eq_false (fun z=>e (TJ (oG (V.str.inj z))).1)]; rfl) ?_
       refine⟨_,rfl,_,_,rfl,fin (fun y=>e ?_) H2 sm⟩
       rw[WL,hc] at y
       exact RQ y.1
   ·rw[decide_eq_false hf]
    exact bR (qn (if_neg fun z=>hf z.2.1) H2 sm)
theorem vf {ns ms:List Int} (p:ms.Perm (ddI ns)) (hs:ms.Pairwise (·<=·)):ns=ms ↔ ns.Pairwise (· < ·):=by
 rw[rR] at p
 constructor
 ·rintro rfl
  have nd:ns.Nodup:=p.nodup_iff.mpr (oZ ns [] (by simp))
  exact (hs.and nd).imp fun h=>by lia
 ·intro h
  have nd:ns.Nodup:=h.imp fun h=>by lia
  rw[Fb ns [] nd,TF] at p
  exact (nA p hs (h.imp fun h=>by lia)).symm
theorem chN {σ:St} {H:Hp} {Q:VK} {i k:Nat} {hi:Int} {p:Prop} [Decidable p] (hv:σ[i]? = some (some (.int (k:Int)))) (hp:(1<=k/\(k:Int)<=hi) ↔ p) (q:Q (.bl (decide p)) H):Ea (rI0 fun i j=>.bl (decide (i<=j))) (rI0 fun i j=>.bl (decide (i<=j))) (tC (.int 1)) (Ai i) (tC (.int hi)) σ H Q:=by
 refine⟨_,hv,_,_,rfl,rfl,_,rfl,?_⟩
 by_cases h1:1<=k
 ·refine lY (by lia) ⟨_,_,rfl,rfl,?_⟩
  show Q (.bl (decide ((k:Int)<=hi))) H
  rw[decide_eq_decide.mpr (show ((k:Int)<=hi) ↔ p from ⟨fun z=>hp.mp ⟨h1,z⟩,fun z=>(hp.mpr z).2⟩)]
  exact q
 ·refine dU (by lia) ?_
  rw[decide_eq_false (fun z=>h1 (hp.mpr z).1)] at q
  exact q
theorem Qz (l:List Nat) {a b:Str} (ea:a=S qt) (eb:b=S jE):inV (.str (S l)) [.str a,.str b]=decide (l=qt∨l=jE):=by
 subst ea eb
 show (eqV (.str (S qt)) (.str (S l)) || (eqV (.str (S jE)) (.str (S l)) || false))=_
 have e:∀ x:List Nat,eqV (.str (S x)) (.str (S l))=decide (l=x):=fun x=>by
  show (S x == S l)=_
  rw[Td,decide_eq_true_eq,beq_iff_eq]
  exact⟨fun h=>(oG h).symm,fun h=>by rw[h]⟩
 rw[e,e,Bool.or_false,Td,VF,decide_eq_true_eq,decide_eq_true_eq,decide_eq_true_eq]
theorem uW (F:Fun K "_law_plain" "_law_plain" j4 f fd) (B:Bt mg)
  (D_law_number:Df P w K mg base "_law_number" 1 ["_law_text"] (Ia Tx cZ KR)):dB P w K mg base CX0 2 f fd ["_law_text"] (Ia Ty lwP Rep):=by
 refine F.ok dh (fun vs H Q E h=>?_) (fun cdv A outer s H vs Q E hr h=>?_)
 ·obtain⟨l,rfl,_⟩:=h
  rfl
 ·obtain⟨l,rfl,ty,q,qn⟩:=h
  refine⟨_,(au (bu (aD (r:=rIn K false) fQ (pv 0) (bh (aa aC (aa aC ao))) rfl) (aA (aJ (bh (aa (pv 0) ao)))) aM)
 (au (aU (i:=1) dh.nd rfl (RJ rfl) (gA Sq Ux Uw iB (pv 0) (aa aC ao)))
 (au (aU (i:=2) dh.nd rfl (RJ rfl) (gA Sq Ux Uw iB (aQ (r:=d8 K) aO (pv 1) aq (fun _ _=>rfl)) (aa aC ao)))
 (au (qW (L:=["_law_word_here"]) (F:=[]) (cap:=[]) (j:=3) dh.nd rfl (RJ rfl) rfl (bU rfl rfl (by kernel_rfl)) (fD (gA Sq Ux Uw iB (aQ (r:=d8 K) aO (pv 2) (uw lX aq) (fun _ _=>rfl)) (aa aC ao))) (fun _ _ _ _ _=>(aN (i:=0) (bM (by decide+kernel)) rfl (RJ rfl))) (fun _ _ _ _ _=>cF) (fun _ _ _ _ _=>(bF D_law_number hr (aa (pv 0) ao))))
 (au (aU (i:=4) dh.nd rfl (RJ rfl) (bF D_law_number hr (aa (aQ (r:=d8 K) aO (pv 1) (uw lX aq) (fun _ _=>rfl)) ao)))
 (au (bu (PW.pt (dW (aD rM (aG (r:=nZ K) bf rfl B.len_ bW (aa (pv 1) ao)) aq (aK _)) (dW (aD uG (aG (r:=nZ K) bf rfl B.len_ bW (aa (pv 2) ao)) aq (aK _)) (dW (aD (r:=rIn K false) fQ gK (pv 3) rfl) (dW (sE (pR (pv 4))) (dW (aD (r:=J9 2) (Dj hr (by decide)) (pv 3) (gF rfl rfl B.sorted_ rfl B.set_ (aa (pv 3) ao)) (aK _)) (dY (aD uG (aQ (r:=d8 K) aO (pv 3) (uw lX aq) (fun _ _=>rfl)) aq (aK _))))))))) (aA (aJ gK)) aM)
 (au (bu (aD cD (aG (r:=nZ K) bf rfl B.len_ bW (aa (pv 2) ao)) aq (aK _)) (au (aU (i:=5) dh.nd rfl (RJ rfl) (bF D_law_number hr (aa (aQ (r:=d8 K) aO (pv 2) aq (fun _ _=>rfl)) ao)))
 (au (aU (i:=6) dh.nd rfl (RJ rfl) (eV (Iw (KN (pv 5))) (eV (yZ mF mF aq (pv 5) aq) (jW (yZ mF mF aq (pv 4) aq)))))
 (aA (aJ (gR (dq (pv 6)) (bh (aa aC (aa (aX (r:=gq K) bD rfl B.tuple_ bJ (aa (pv 3) ao)) (aa (pv 4) (aa (pv 5) ao))))) gK))))) aM)
 (au (bu (aD cD (aG (r:=nZ K) bf rfl B.len_ bW (aa (pv 3) ao)) aq (aK _)) (aA (aJ (gR (ph mF mF aq (pv 4) aq) (bh (aa aC (aa (aQ (r:=d8 K) aO (pv 3) aq (fun _ _=>rfl)) (aa (pv 4) ao)))) gK))) aM)
 (aA (aJ (gR (ph mF mF aq (pv 4) aq) (bh (aa aC (aa (aX (r:=gq K) bD rfl B.tuple_ bJ (aa (pv 3) ao)) (aa (pv 4) ao)))) gK))))))))))),?_⟩
  have tl:=ty.1.2
  refine⟨_,rfl,small (by show 2<=1000; decide),fun p0 h0=>?_⟩
  generalize eH0:upd H p0 _=H0
  obtain⟨g0,e0⟩:=aH eH0 h0
  refine⟨p0,_,rfl,.inr (SqT.of e0),rfl,rfl,_,rfl,?_⟩
  rw[show inV (.str (S l)) _=_ from Qz l sy mX]
  by_cases hfn:l=qt∨l=jE
  ·rw[decide_eq_true hfn]
   refine bR ⟨_,rfl,small (by show 1<=1000; decide),fun p hp=>?_⟩
   have r1:∀ {z:Str},S l=z->Rep (upd H0 p (.tup [.str (S l)])) (.ref p) (.tup [.str z]):=fun e=>by
    rw[← e]
    exact .tup aj (show 1<=100000 by decide) (.cons (.str _) .nil)
   unfold lwP at q
   rcases hfn with hf | hn
   ·rw[if_pos hf] at q
    exact q frD rfl (.ref p) _ (g0.trans (az hp _)) (r1 (by rw[hf]; exact sy.symm))
   ·rw[if_neg (by rw[hn]; decide),if_pos hn] at q
    exact q nvD rfl (.ref p) _ (g0.trans (az hp _)) (r1 (by rw[hn]; exact mX.symm))
  rw[decide_eq_false hfn]
  refine dF ?_
  unfold lwP at q qn
  rw[if_neg (fun z=>hfn (.inl z)),if_neg (fun z=>hfn (.inr z))] at q qn
  have n58:=fG 58 l
  have m58:∀ p∈spl 58 l,Inf p l:=fun p hp=>gm hp
  have k58:=fO 58 l
  refine⟨_,rfl,rfl,_,_,rfl,rfl,rfl,by rw[cA]; lia,by rw[eH,dZ,Q8]; lia,fun p1 h1=>?_⟩
  rw[eH,dZ]
  generalize spl 58 l=ps at *
  generalize eH1:upd H0 p1 _=H1
  obtain⟨g1,e1⟩:=aH eH1 h1
  have i0:=m58 _ (head_mem (d:=[]) n58)
  have i9:=m58 _ (lG (d:=[]) n58)
  refine⟨_,rfl,p1,_,_,_,rfl,rfl,SqL.of e1,aF (k:=0) (yM (pF (d:=[]) n58)),rfl,_,_,rfl,rfl,rfl,by rw[cA]; have:=i0.len; lia,by rw[rQ,dZ,Q8]; have:=fO 42 (ps.headD []); have:=i0.len; lia,fun p2 h2=>?_⟩
  rw[rQ,dZ]
  generalize ps.headD []=hd at *
  have n42:=fG 42 hd
  have m42:∀ p∈spl 42 hd,Inf p hd:=fun p hp=>gm hp
  generalize spl 42 hd=hs at *
  generalize eH2:upd H1 p2 _=H2
  obtain⟨g2,e2⟩:=aH eH2 h2
  have j9:=(m42 _ (lG (d:=[]) n42)).trans i0
  refine⟨_,rfl,_,rfl,p2,_,_,_,rfl,rfl,SqL.of e2,yw n42,rfl,_,_,rfl,rfl,rfl,by rw[cA]; have:=j9.len; lia,by rw[lH,dZ,Q8]; have:=fO 43 (hs.getLastD []); have:=j9.len; lia,fun p3 h3=>?_⟩
  rw[lH,dZ]
  generalize hs.getLastD []=cw at *
  generalize eH3:upd H2 p3 _=H3
  obtain⟨g3,e3⟩:=aH eH3 h3
  have k43:=fO 43 cw
  have tc:=ty.inf j9
  refine⟨p3,rfl,⟨_,SqL.of e3⟩,fun D hD=>eX (K:=K) (a:=p3) (xs:=((spl 43 cw).map S).map V.str) (fun i zs σ' H4=>(∃ u,σ'=[u])/\zs=(((spl 43 cw).take i).map cZ).map oV/\bc H3 H4/\H4 D=some (.lst zs))
   ⟨⟨_,rfl⟩,rfl,az hD _,aj⟩ (fun i zs σ' H4 _ h=>⟨SqL.of (h.2.2.1 _ _ e3),h.2.2.2⟩) ?_ ?_⟩
  ·rintro j zs x σ' H4 hx ⟨⟨u,rfl⟩,ez,sm,hDl⟩
   rw[Rz,Rz] at hx
   cases hi:(spl 43 cw)[j]? with
   | none=>rw[hi] at hx; cases hx
   | some y =>
    rw[hi] at hx
    have hx:V.str (S y)=x:=RQ hx
    subst hx
    have go:∀ (v:V) (H5:Hp),bc H4 H5->v=oV (cZ y)->H5 D=some (.lst zs)/\zs.length < 2 ^ 60/\∃ u',(zs++[v])=(((spl 43 cw).take (j+1)).map cZ).map oV/\u'=some v:=fun v H5 s5 ev=>by
     refine⟨s5 _ _ hDl,?_,_,?_,rfl⟩
     ·rw[ez,Q8,Q8,RN]
      have:=tc.1.2
      exact Sw (show _<=100000 by lia) (by decide)
     ·rw[ez,SJ,hi,Rx,Rx,ev]
      rfl
    refine gT ?_
    have lz:zs.length<=100000:=by
     rw[ez,Q8,Q8,RN]
     have:=tc.1.2
     lia
    have nx:(zs++[oV (cZ y)])=(((spl 43 cw).take (j+1)).map cZ).map oV:=by
     rw[ez,SJ,hi,Rx,Rx]
     rfl
    refine⟨_,rfl,y,rfl,tc.1.inf (gm (RL hi)),fun n hn v H5 s5 hv=>?_,fun hn H5 s5=>?_⟩
    ·cases hv
     rw[hn] at nx
     exact⟨s5 _ _ hDl,Sw lz (by decide),⟨_,rfl⟩,nx,aY (sm.trans s5) hD _,aj⟩
    ·rw[hn] at nx
     exact⟨s5 _ _ hDl,Sw lz (by decide),⟨_,rfl⟩,nx,aY (sm.trans s5) hD _,aj⟩
  ·rintro zs σ' H4 ⟨_,ez,s4,eD⟩
   rw[Q8,Q8,R6] at ez
   have ps1:=s4 _ _ (g3 _ _ (g2 _ _ e1))
   have ps2:=s4 _ _ (g3 _ _ e2)
   have g4:=g0.trans (g1.trans (g2.trans (g3.trans s4)))
   have n43:=fG 43 cw
   have il:=m58 _ (lG (d:=[]) n58)
   refine⟨_,rfl,_,rfl,p1,_,_,_,rfl,rfl,SqL.of ps1,yw n58,?_⟩
   generalize ps.getLastD []=sw at *
   have tw:=ty.1.inf il
   have n42':hs.length≠0:=fun z=>n42 (List.length_eq_zero_iff.mp z)
   refine⟨sw,rfl,tw,fun k hk v H5 s5 hv=>?_,fun hk H5 s5=>?_⟩
   ·cases hv
    have g5:=g4.trans s5
    have qs1:=s5 _ _ ps1
    have qs2:=s5 _ _ ps2
    have qD:=s5 _ _ eD
    refine⟨_,rfl,p1,_,rfl,.inl (SqL.of qs1),rfl,_,rfl,?_⟩
    by_cases c2:ps.length=2
    case neg =>
     rw[if_pos c2] at qn
     exact Ba (by rw[Q8,Q8,decide_eq_false (fun z=>c2 (by injection z with z; lia))]; rfl) (bR (qn rfl H5 g5))
    rw[if_neg (fun z=>z c2)] at q qn
    refine jf (by rw[Q8,Q8,c2]; rfl) ?_
    refine⟨_,rfl,p2,_,rfl,.inl (SqL.of qs2),_,_,rfl,rfl,_,rfl,?_⟩
    rw[Q8,Q8]
    by_cases c3:2 < hs.length
    case pos =>
     rw[if_pos c3] at qn
     exact lY (by lia) (bR (qn rfl H5 g5))
    rw[if_neg c3] at q qn
    refine dU (by lia) ?_
    refine⟨_,rfl,D,_,rfl,.inl (SqL.of qD),rfl,by rw[ez]; exact Fe _,_,rfl,?_⟩
    rw[ez,show (if false=true then _ else inV .non (((spl 43 cw).map cZ).map oV))=_ from Nb (spl 43 cw)]
    cases ec:rdC cw with
    | none =>
     rw[ec] at qn
     rw[decide_eq_true (show dX cZ (spl 43 cw)=none from ec)]
     exact bR (bR (qn rfl H5 g5))
    | some ns =>
     rw[ec,hk] at q qn
     have ec':dX cZ (spl 43 cw)=some ns:=ec
     rw[decide_eq_false (show ¬ dX cZ (spl 43 cw)=none from fun z=>by rw[ec'] at z; cases z)]
     rw[LK ec'] at ez
     rw[ez] at qD
     have ln:=Le tc.2 ec
     have nn:ns≠[]:=fun z=>by
      have:=cg ec'
      rw[z] at this
      exact n43 (List.length_eq_zero_iff.mp this.symm)
     change lwN hs ns k=none->_ at qn
     have q:∀ b,lwN hs ns k=some b->∀ v H',bc H H'->Rep H' v b->Q v H':=q
     unfold lwN at q qn
     refine dF ⟨_,rfl,_,rfl,dU (fun z=>nomatch z) ?_⟩
     refine⟨_,rfl,_,rfl,D,ns.map fun n:Nat=>(n:Int),rfl,SqL.of (by rw[qD,uA]),by rw[Q8]; lia,yH (by rw[Q8]; exact ln),fun ms pm so l2 hl2=>?_⟩
     generalize eH6:upd H5 l2 _=H6
     obtain⟨g56,e6⟩:=aH eH6 hl2
     have g6:=g5.trans g56
     have rD:=g56 _ _ qD
     have rs2:=g56 _ _ qs2
     have eri:(ns.map fun n:Nat=>(n:Int))=ms ↔ ns.Pairwise (· < ·):=(vf pm so).trans (EY ns)
     refine⟨D,l2,_,_,(ns.map fun n:Nat=>(n:Int)).map Dm.int,ms.map Dm.int,rfl,rfl,by rw[rD,uA],e6,pY _,pY _,by rw[qP]; lia,_,rfl,?_⟩
     rw[vQ]
     by_cases hpw:ns.Pairwise (· < ·)
     case neg =>
      rw[decide_eq_false (fun z=>hpw (eri.mp z))]
      exact bR (bR (qn (if_pos (.inl hpw)) H6 g6))
     rw[decide_eq_true (eri.mpr hpw)]
     refine dF ?_
     have em1:atI (ns.map vN) (-1)=some (vN (ns.getLastD 0)):=Dr (by rw[Q8,Rz,yh (d:=0) nn]; rfl)
     refine⟨_,rfl,_,rfl,D,_,_,_,rfl,rfl,SqL.of rD,em1,_,_,rfl,rfl,_,rfl,?_⟩
     by_cases h11:11 < ns.getLastD 0
     case pos=>exact lY (by lia) (qn (if_pos (.inr h11)) H6 g6)
     refine dU (by lia) ?_
     rw[if_neg (fun z=>z.elim (fun y=>y hpw) h11)] at q qn
     refine⟨_,rfl,p2,_,rfl,.inl (SqL.of rs2),rfl,_,rfl,?_⟩
     rw[Q8,Q8]
     have toN:∀ n:Nat,¬ (V.int (n:Int)=V.non):=fun n z=>nomatch z
     by_cases hh:hs.length=2
     ·rw[if_pos hh] at q qn
      refine lY (by rw[hh]; rfl) ?_
      have jh:=(m42 _ (head_mem (d:=[]) n42)).trans i0
      refine⟨_,rfl,p2,_,_,_,rfl,rfl,SqL.of rs2,aF (k:=0) (yM (pF (d:=[]) n42)),?_⟩
      generalize hs.headD []=mw at *
      refine⟨mw,rfl,ty.1.inf jh,fun m hm v H7 s7 hv=>?_,fun hm H7 s7=>?_⟩
      ·cases hv
       rw[hm] at q qn
       have g7:=g6.trans s7
       have tD:=s7 _ _ rD
       refine⟨_,rfl,_,rfl,bR ?_⟩
       refine chN rfl (p:=1<=m/\m<=12) (by lia) ⟨_,rfl,?_⟩
       by_cases d1:1<=m/\m<=12
       ·rw[decide_eq_true d1]
        refine bR (chN rfl (p:=1<=k/\k<=9) (by lia) ?_)
        by_cases d2:1<=k/\k<=9
        ·rw[decide_eq_true d2]
         refine⟨_,rfl,_,rfl,bR ?_⟩
         refine⟨_,rfl,D,_,rfl,.inl ⟨SqL.of tD,fun p4 h4=>?_⟩⟩
         refine⟨_,rfl,_,rfl,small (by show 4<=1000; decide),fun p5 h5=>q (crD ns k m) (if_pos ⟨d1,d2⟩) (.ref p5) _ (g7.trans ((az h4 _).trans (az h5 _))) ?_⟩
         exact .tup aj (show 4<=100000 by decide) (.cons (.str _) (.cons (.tup (az h5 _ _ _ aj) (by rw[Q8]; lia) (lR ns)) (.cons (jT k) (.cons (jT m) .nil))))
        ·rw[decide_eq_false d2]
         exact⟨_,rfl,_,rfl,dF (qn (if_neg fun z=>d2 z.2) H7 g7)⟩
       ·rw[decide_eq_false d1]
        exact dF ⟨_,rfl,_,rfl,dF (qn (if_neg fun z=>d1 z.1) H7 g7)⟩
      ·rw[hm] at qn
       refine⟨_,rfl,_,rfl,dF ?_⟩
       exact⟨_,rfl,_,rfl,dF (qn rfl H7 (g6.trans s7))⟩
     ·rw[if_neg hh] at q qn
      refine dU (fun z=>hh (by injection z with z; lia)) ?_
      refine⟨_,rfl,D,_,rfl,.inl (SqL.of rD),rfl,_,rfl,?_⟩
      rw[Q8]
      by_cases h1:ns.length=1
      ·rw[if_pos h1] at q qn
       refine lY (by rw[h1]; rfl) ?_
       refine chN rfl (p:=1<=k/\k<=9) (by lia) ⟨_,rfl,?_⟩
       by_cases d2:1<=k/\k<=9
       ·rw[decide_eq_true d2]
        have e0:(ns.map vN)[0]? = some (vN (ns.headD 0)):=by rw[Rz,pF (d:=0) nn]; rfl
        refine bR ⟨_,rfl,D,_,_,_,rfl,rfl,SqL.of rD,aF (k:=0) e0,_,rfl,small (by show 3<=1000; decide),fun p5 h5=>q (gvD (ns.headD 0) k) (if_pos d2) (.ref p5) _ (g6.trans (az h5 _)) ?_⟩
        exact .tup aj (show 3<=100000 by decide) (.cons (.str _) (.cons (jT _) (.cons (jT k) .nil)))
       ·rw[decide_eq_false d2]
        exact dF (qn (if_neg d2) H6 g6)
      ·rw[if_neg h1] at q qn
       refine dU (fun z=>h1 (by injection z with z; lia)) ?_
       refine chN rfl (p:=1<=k/\k<=99) (by lia) ⟨_,rfl,?_⟩
       by_cases d2:1<=k/\k<=99
       ·rw[decide_eq_true d2]
        refine bR ⟨_,rfl,D,_,rfl,.inl ⟨SqL.of rD,fun p4 h4=>?_⟩⟩
        refine⟨_,rfl,small (by show 3<=1000; decide),fun p5 h5=>q (smD ns k) (if_pos d2) (.ref p5) _ (g6.trans ((az h4 _).trans (az h5 _))) ?_⟩
        exact .tup aj (show 3<=100000 by decide) (.cons (.str _) (.cons (.tup (az h5 _ _ _ aj) (by rw[Q8]; lia) (lR ns)) (.cons (jT k) .nil)))
       ·rw[decide_eq_false d2]
        exact dF (qn (if_neg d2) H6 g6)
   ·have QN:∀ H',bc H H'->Q .non H':=qn (by
     rw[hk]
     split
     ·rfl
     ·split
      ·rfl
      ·cases rdC cw <;> rfl)
    have g5:=g4.trans s5
    have qs1:=s5 _ _ ps1
    have qs2:=s5 _ _ ps2
    have qD:=s5 _ _ eD
    refine⟨_,rfl,p1,_,rfl,.inl (SqL.of qs1),rfl,_,rfl,jG (fun _=>bR (QN H5 g5)) (fun _=>?_)⟩
    refine⟨_,rfl,p2,_,rfl,.inl (SqL.of qs2),_,_,rfl,rfl,_,rfl,jG (fun _=>bR (QN H5 g5)) (fun _=>?_)⟩
    refine⟨_,rfl,D,_,rfl,.inl (SqL.of qD),rfl,by rw[ez]; exact Fe _,_,rfl,jG (fun _=>bR (QN H5 g5)) (fun _=>?_)⟩
    exact⟨_,rfl,_,rfl,bR (bR (QN H5 g5))⟩
theorem Jg {T:TT} {a b:TS} {D:Ends} {σ:St} {H:Hp} (R:Bool->Hp->Prop) (hT:∀ Q:Bool->Hp->Prop,(∀ c H1,R c H1->Q c H1)->T σ H Q) (ha:∀ H1,R true H1->a D σ H1) (hb:∀ H1,R false H1->b D σ H1):Bb T a b D σ H:=by
 refine hT _ fun c H1 r=>?_
 cases c
 ·exact hb _ r
 ·exact ha _ r
abbrev jw:Stmt:=top 47
theorem dm:aV ["_law_text","_law_deep","_law_pieces_here","_law_found","_law_sign"] ["_law_text"] (aB jw):=⟨rfl,rfl,rfl,by decide+kernel,rfl,by decide+kernel,by decide+kernel⟩
def sgV (x:Nat):V:=.str (S [x])
def Qd:Sp:=fun vs H Q _=>∃ l:List Nat,vs=[.str (S l)]/\Tx l ∧
 ((pcA l 0 [] [] []).1=none->∀ a v H',bc H H'->H' a=some (.tup [.non,v])->Q (.ref a) H') ∧
 (∀ ps,(pcA l 0 [] [] []).1=some ps->∀ a p b H',bc H H'->H' a=some (.tup [.ref p,.ref b])->H' p=some (.lst ((ps.map S).map V.str))->H' b=some (.lst ((pcA l 0 [] [] []).2.map sgV))->Q (.ref a) H')
theorem Px:(("&|" : String):Str)=S [38,124]:=by decide+kernel
theorem Cy (x c:Nat) {y:Str} (e:y=S [c]):decide (V.str (S [x])=V.str y)=decide (x=c):=by
 subst e
 exact decide_eq_decide.mpr ⟨fun z=>(TJ (oG (V.str.inj z))).1,fun z=>by rw[z]⟩
theorem Mu (x a b:Nat):(!(U7 (S [a,b]) (S [x]) 0 (S [a,b]).length 1).isEmpty)=decide (x=a∨x=b):=by
 rw[yF]
 exact decide_eq_decide.mpr (by simp)
theorem Kl (ps:List (List Nat)) (cur new:List Nat):(((ps++[cur]).map S).map V.str).set ps.length (.str (S new))=((ps++[new]).map S).map V.str:=by
 simp [List.set_append]
theorem Mf (n:Nat):ixN (n+1) (-1)=some n:=by
 unfold ixN
 rw[if_neg (by lia),if_pos (by lia)]
 congr 1
 lia
theorem tE (F:Fun K "_law_pieces" "_law_pieces" jw f fd) (B:Bt mg):dB P w K mg base CX0 1 f fd ["_law_text"] Qd:=by
 refine F.ok dm (fun vs H Q E h=>?_) (fun cdv A outer s H vs Q E hr h=>?_)
 ·obtain⟨l,rfl,_⟩:=h
  rfl
 ·obtain⟨l,rfl,tx,qn,q⟩:=h
  refine⟨_,(au (aU (i:=1) dm.nd rfl (RJ rfl) aq)
 (au (aU (i:=2) dm.nd rfl (RJ rfl) (cj (aa aC ao)))
 (au (aU (i:=3) dm.nd rfl (RJ rfl) (cj ao))
 (au (gC TX rfl (Ef (pv 0)) (aN (i:=4) dm.nd rfl (RJ rfl)) (au (aU (i:=1) dm.nd rfl (RJ rfl) (aL gQ (aL bK (pv 1) (aX (r:=Cp) jC rfl B.int_ jR (aa (cR cD (pv 4) aC (aK _)) ao))) (aX (r:=Cp) jC rfl B.int_ jR (aa (cR cD (pv 4) aC (aK _)) ao))))
 (au (bu (aD uN (pv 1) aq (aK _)) (aA (aJ (bh (aa gK (aa (cj ao) ao))))) aM)
 (aA (bu (PW.pt (nU (aD cD (pv 1) aq (aK _)) (ji (aD lu (pv 4) aC rfl)))) (au (iG (gA Uo Ui Uh dw (pv 2) (aa aC ao)))
 (aA (iG (gA Uo Ui Uh dw (pv 3) (aa (pv 4) ao))))) (aA (sO (aL aP (aQ (r:=d8 K) aO (pv 2) (uw lX aq) (fun _ _=>rfl)) (pv 4)) (Mr (pv 2) (uw lX aq) set_list))))))))
 (aA (aJ (bh (aa (gR (aD cD (pv 1) aq (aK _)) (pv 2) gK) (aa (pv 3) ao))))))))),?_⟩
  have tl:=tx.2
  refine⟨small (by show 1<=1000; decide),fun p hp=>?_⟩
  generalize eH1:upd H p _=H1
  obtain⟨g1,e1⟩:=aH eH1 hp
  refine⟨small (by show 0<=1000; decide),fun b hb=>?_⟩
  generalize eH2:upd H1 b _=H2
  obtain⟨g2,e2⟩:=aH eH2 hb
  have hbp:b≠p:=fun z=>by rw[z,e1] at hb; cases hb
  have hb0:H b=none:=g1.free hb
  refine⟨_,rfl,S l,rfl,G6 tx.1,Ko (x:=S l) (fun i σ H3=>∃ (d:Int) (ps:List (List Nat)) (cur fs:List Nat) (u:Option V),σ=[some (.str (S l)),some (.int d),some (.ref p),some (.ref b),u]/\bc H H3/\H3 p=some (.lst (((ps++[cur]).map S).map V.str))/\H3 b=some (.lst (fs.map sgV))/\pcA (l.drop i) d ps cur fs=pcA l 0 [] [] []/\ps.length+cur.length+fs.length<=2 * i/\i<=l.length)
   ⟨0,[],[],[],_,rfl,g1.trans g2,g2 _ _ (by rw[e1,sW]; rfl),by rw[e2]; rfl,rfl,by simp,Sd _⟩ ?_ ?_⟩
  ·rintro i σ H3 hi ⟨d,ps,cur,fs,u,rfl,sm,ep,eb,epc,ln,_⟩
   rw[nT] at hi
   rw[Om hi]
   rw[Wc hi,pcA] at epc
   generalize l[i]=x at epc ⊢
   refine⟨_,rfl,_,rfl,rfl,.inr ⟨_,rfl,_,_,rfl,rfl,_,rfl,rfl,.inr ⟨_,rfl,_,_,rfl,rfl,?_⟩⟩⟩
   rw[Cy x 40 oJ,Cy x 41 rN]
   simp only[decide_eq_true_eq]
   generalize ((d+if x=40 then 1 else 0) - if x=41 then 1 else 0)=dn at epc ⊢
   refine⟨_,rfl,_,_,rfl,rfl,_,rfl,?_⟩
   by_cases c1:dn < 0
   ·rw[if_pos c1] at epc
    refine lY c1 ⟨small (by show 0<=1000; decide),fun q1 h1=>?_⟩
    refine⟨small (by show 2<=1000; decide),fun q2 h2=>?_⟩
    exact qn (by rw[← epc]) q2 _ _ (sm.trans ((az h1 _).trans (az h2 _))) aj
   rw[if_neg c1] at epc
   refine dU c1 ?_
   have pz:p≠b:=fun z=>hbp z.symm
   have il:i+1<=l.length:=hi
   have dIff:decide (V.int dn=V.int 0)=decide (dn=0):=decide_eq_decide.mpr ⟨fun z=>by injection z,fun z=>by rw[z]⟩
   unfold Jt
   dsimp only
   refine Jg (fun c Hx=>Hx=H3/\c=decide (dn=0/\(x=38∨x=124))) (fun Q' hQ=>?_) ?_ ?_
   ·refine⟨_,rfl,rfl,_,rfl,?_⟩
    rw[dIff]
    by_cases c2:dn=0
    ·refine lY c2 ⟨_,rfl,_,_,rfl,rfl,_,rfl,hQ _ _ ⟨rfl,?_⟩⟩
     rw[Px,Mu]
     exact decide_eq_decide.mpr ⟨fun z=>⟨c2,z⟩,fun z=>z.2⟩
    ·exact dU c2 (hQ _ _ ⟨rfl,(decide_eq_false fun z=>c2 z.1).symm⟩)
   ·rintro H4 ⟨rfl,c3⟩
    have c3:=of_decide_eq_true c3.symm
    rw[if_pos c3] at epc
    refine⟨_,rfl,.inl ⟨rfl,_,SqL.of ep⟩,p,_,_,rfl,rfl,ep,?_,?_⟩
    ·simp only[Q8,Rf,Rk]
     exact Sw (show _<=300000 by lia) (by decide)
    refine⟨_,rfl,.inl ⟨rfl,_,SqL.of (by rw[aR hbp]; exact eb)⟩,_,rfl,b,fs.map sgV,_,rfl,rfl,?_,?_,?_⟩
    ·rw[aR hbp]
     exact eb
    ·rw[Q8]
     exact Sw (show _<=300000 by lia) (by decide)
    refine⟨dn,ps++[cur],[],fs++[x],_,rfl,aY (aY sm hp _) hb0 _,?_,?_,epc,?_,il⟩
    ·rw[aR pz,aj,sW]
     simp
    ·rw[aj,Rx]
     rfl
    ·simp only[Rf,Rk,Yp]
     lia
   ·rintro H4 ⟨rfl,c3⟩
    have c3:=of_decide_eq_false c3.symm
    rw[if_neg c3] at epc
    have ex:atI (((ps++[cur]).map S).map V.str) (-1)=some (.str (S cur)):=Dr (by simp)
    refine⟨_,rfl,_,rfl,p,_,_,_,rfl,rfl,SqL.of ep,ex,_,rfl,_,_,rfl,rfl,fH (by rw[Rk]; lia),?_⟩
    rw[eE]
    refine⟨_,rfl,_,rfl,p,_,_,ps.length,rfl,rfl,ep,?_,?_⟩
    ·simp only[Q8,Rf,Rk]
     exact Mf _
    rw[Kl]
    refine⟨dn,ps,cur++[x],fs,_,rfl,aY sm hp _,aj,?_,epc,?_,il⟩
    ·rw[aR hbp]
     exact eb
    ·rw[Rf,Rk]
     lia
  ·rintro σ H3 ⟨d,ps,cur,fs,u,rfl,sm,ep,eb,epc,ln,_⟩
   rw[nT,W9,pcA] at epc
   refine⟨_,rfl,rfl,_,rfl,?_⟩
   have dIff:decide (V.int d=V.int 0)=decide (d=0):=decide_eq_decide.mpr ⟨fun z=>by injection z,fun z=>by rw[z]⟩
   rw[dIff]
   by_cases c0:d=0
   ·rw[if_pos c0] at epc
    refine lY c0 ⟨_,rfl,_,rfl,small (by show 2<=1000; decide),fun q1 h1=>?_⟩
    rw[← epc] at q
    exact q (ps++[cur]) rfl q1 p b _ (sm.trans (az h1 _)) aj (az h1 _ _ _ ep) (az h1 _ _ _ eb)
   ·rw[if_neg c0] at epc
    refine dU c0 ⟨_,rfl,small (by show 2<=1000; decide),fun q1 h1=>?_⟩
    exact qn (by rw[← epc]) q1 _ _ (sm.trans (az h1 _)) aj
theorem Ei (l:List Nat):fK (S l) none (some 1)=S (l.take 1):=by
 cases l with
 | nil=>rfl
 | cons x r =>
  have e:RB none (some 1) 1 (S (x::r)).length=RB (some ((0:Nat):Int)) (some ((1:Nat):Int)) 1 (S (x::r)).length:=by
   rw[cA,Rg]
   unfold RB
   dsimp only
   simp
   congr 1
  have e2:fK (S (x::r)) none (some 1)=fK (S (x::r)) (some ((0:Nat):Int)) (some ((1:Nat):Int)):=by
   unfold fK
   rw[e]
  rw[e2,qx (by lia) (by rw[Rg]; lia)]
  rfl
theorem xx (l:List Nat):fK (S l) (some (-1)) none=S (l.drop (l.length - 1)):=by
 rcases Vi l with rfl | ⟨q,y,rfl⟩
 ·rfl
 ·rw[Vj]
  have e:RB (some (-1)) none 1 (S (q++[y])).length=RB (some ((q.length:Nat):Int)) none 1 (S (q++[y])).length:=by
   rw[cA,Rf,Rk]
   unfold RB
   dsimp only
   rw[if_pos (show (-1:Int) < 0 by decide),if_neg (show ¬ ((q.length:Nat):Int) < 0 by lia),show ((-1:Int)+((q.length+1:Nat):Int))=((q.length:Nat):Int) by lia]
  have e2:fK (S (q++[y])) (some (-1)) none=fK (S (q++[y])) (some ((q.length:Nat):Int)) none:=by
   unfold fK
   rw[e]
  rw[e2,pB (by rw[Rf]; lia),Rf,Rk,Wt]
theorem zq (l:List Nat):fK (S l) (some 1) (some (-1))=S (jJ l):=by
 cases l with
 | nil=>rfl
 | cons x r =>
  rcases Vi r with rfl | ⟨q,y,rfl⟩
  ·have e:RB (some 1) (some (-1)) 1 (S [x]).length=RB (some ((1:Nat):Int)) (some ((1:Nat):Int)) 1 (S [x]).length:=by
    rw[cA]
    show RB (some 1) (some (-1)) 1 1=RB (some ((1:Nat):Int)) (some ((1:Nat):Int)) 1 1
    decide
   have e2:fK (S [x]) (some 1) (some (-1))=fK (S [x]) (some ((1:Nat):Int)) (some ((1:Nat):Int)):=by
    unfold fK
    rw[e]
   rw[e2,qx (Rh _) (by rw[Rk]; lia)]
   rfl
  ·rw[Vj,Hy]
   unfold jJ
   rw[YM,V8,YC]
theorem Ny {q:List Nat} {qs:List (List Nat)} {gs:List Nat} (e:pcA q 0 [] [] []=(some qs,gs)):gs.length+1=qs.length/\(∀ x∈qs,Inf x q)/\∀ x∈gs,x=38∨x=124:=by
 obtain⟨p,rest,hs,e1,e2,e3,e4,e5,e6⟩:=rY q 0 [] [] [] qs gs (fun t=>rfl) e
 rw[TF] at e1 e2 e5
 subst e1 e2
 refine⟨by rw[Rg,e3],fun x hx=>?_,e6⟩
 rw[e5]
 exact DX (by rw[Rg,e3]) hx
theorem zp (c:List Nat):jb (c.map dI)=0:=by
 have e:c.map dI=(c.map fun n:Nat=>(n:Int)).map Dm.int:=by rw[Vq]; rfl
 rw[e,qP]
theorem Ck {l:List Nat} {x:Dm} (h:lwP l=some x):(∃ ds,x = .tup ds)/\x.dep<=2:=by
 have good:∀ ds:List Dm,jb ds<=1->(∃ es,Dm.tup ds = .tup es)/\(Dm.tup ds).dep<=2:=fun ds hd=>⟨⟨ds,rfl⟩,by rw[Dm.dep]; lia⟩
 unfold lwP at h
 split at h
 ·cases h; exact good _ (by simp [jb,Dm.dep])
 split at h
 ·cases h; exact good _ (by simp [jb,Dm.dep])
 split at h
 ·cases h
 split at h
 ·cases h
 obtain⟨ns,_,h⟩:=Option.bind_eq_some_iff.mp h
 obtain⟨k,_,h⟩:=Option.bind_eq_some_iff.mp h
 unfold lwN at h
 split at h
 ·cases h
 split at h
 ·obtain⟨m,_,h⟩:=Option.bind_eq_some_iff.mp h
  split at h
  ·cases h; exact good _ (by simp [jb,Dm.dep,zp,dI])
  ·cases h
 split at h
 ·split at h
  ·cases h; exact good _ (by simp [jb,Dm.dep,dI])
  ·cases h
 ·split at h
  ·cases h; exact good _ (by simp [jb,Dm.dep,zp,dI])
  ·cases h
theorem kE:∀ (d:Nat) {l:List Nat} {x:Dm},lwR d l=some x->(∃ ds,x = .tup ds)/\x.dep<=2 * d+2
 | 0,l,x,h=>by
  rw[lwR] at h
  split at h
  ·have:=Ck h
   exact⟨this.1,by lia⟩
  ·cases h
 | d+1,l,x,h=>by
  rw[lwR] at h
  split at h
  ·have:=Ck h
   exact⟨this.1,by lia⟩
  split at h
  ·cases h
  split at h
  ·cases h
  unfold lwG at h
  split at h
  ·cases h
  split at h
  ·cases h
  split at h
  ·cases h
  rename_i ds es
  split at h
  ·cases h
  cases h
  refine⟨⟨_,rfl⟩,?_⟩
  have hd:jb ds<=2 * d+2:=pW fun e he=>by
   obtain⟨p,_,ep⟩:=fc es e he
   exact (kE d ep).2
  unfold grD
  rw[Dm.dep,jb,jb,jb,Dm.dep]
  ·simp only[Dm.dep]
   lia
  all_goals simp
theorem yV {d:Nat} {l:List Nat} {x:Dm} (hd:1<=d) (t:Tx l) (h:lwR d l=some x):pd x=true:=by
 rw[jL d l hd] at h
 exact sI d t.2 (Option.filter_eq_some_iff.mp h).1
def oD (o:Option Dm):Dm:=o.getD .non
theorem qL {H H':Hp} (e:∀ a xs,H a=some (HO.tup xs)->H' a=some (HO.tup xs)):∀ {vs:List V} {ds:List Dm},eN H vs ds->(∀ d∈ds,d = .non∨pd d=true)->eN H' vs ds
 | _,_,.nil,_=>.nil
 | _,_,.cons (d:=d) h r,hp=>by
  refine .cons ?_ (qL e r fun x hx=>hp x (Ri _ hx))
  rcases hp d Rc with z | z
  ·subst z
   cases h
   exact .non
  ·exact vG e h z
theorem O8 {f:List Nat->Option Dm} (hf:∀ p x,f p=some x->∃ ds,x = .tup ds) (ps:List (List Nat)):(ps.map fun p=>oD (f p)).any (fun e=>eqD e .non)=decide (dX f ps=none):=by
 rw[Td,ZM,decide_eq_true_eq]
 constructor
 ·rintro⟨e,he,ee⟩
  obtain⟨p,hp,rfl⟩:=List.mem_map.mp he
  cases ef:f p with
  | none=>exact jr hp ef
  | some x =>
   obtain⟨ds,rfl⟩:=hf p x ef
   rw[ef] at ee
   exact absurd ee (by unfold oD; simp [eqD])
 ·intro h
  obtain⟨p,hp,ef⟩:=Dk h
  exact⟨_,YL hp,by rw[ef]; exact pD _⟩
theorem O6 {f:List Nat->Option Dm} {ps:List (List Nat)} {ds:List Dm} (h:dX f ps=some ds):(ps.map fun p=>oD (f p))=ds:=by
 have e:=t7 h
 have e2:(ps.map fun p=>oD (f p))=(ps.map f).map oD:=by rw[Vq]; rfl
 rw[e2,e,Vq]
 exact List.map_id _
abbrev ni:Stmt:=top 48
theorem iw:aV ["_law_text","_law_deep","_law_pieces_here","_law_found","_law_parts"] ["_law_text","_law_deep"] (aB ni):=⟨rfl,rfl,rfl,by decide+kernel,rfl,by decide+kernel,by decide+kernel⟩
def Hw (d:Nat):Sp:=fun vs H Q _=>∃ (l:List Nat) (dp:Nat),vs=[.str (S l),.int (dp:Int)]/\dp < d/\1<=dp/\Ty l/\(∀ b,lwR dp l=some b->∀ v H',bc H H'->Rep H' v b->Q v H')/\(lwR dp l=none->∀ H',bc H H'->Q .non H')
theorem K3 {ps:List Str} {k:Nat}:dB P w K mg base CX0 k f fd ps (Hw 1):=by
 have no:∀ vs H Q E,¬ Hw 1 vs H Q E:=fun vs H Q E h=>by
  obtain⟨l,dp,_,h1,h2,_⟩:=h
  lia
 exact⟨fun vs H Q E h=>absurd h (no vs H Q E),fun A outer s H args us vs Q E _ _ _ _ h=>absurd h (no vs H Q E)⟩
theorem Ml (l:List Nat) {y:Str} (e:y=S [40]):(!decide (V.str (S (l.take 1))=V.str y))=decide (l.head?≠some 40):=by
 subst e
 rw[Td]
 simp only[Bool.not_eq_true',decide_eq_false_iff_not,decide_eq_true_eq]
 refine not_congr ⟨fun z=>?_,fun z=>?_⟩
 ·have:=oG (V.str.inj z)
  cases l with
  | nil=>cases this
  | cons x r =>
   rw[YK,WK] at this
   rw[(TJ this).1]
   rfl
 ·cases l with
  | nil=>cases z
  | cons x r =>
   rw[RQ z]
   rfl
theorem Mp (l:List Nat) {y:Str} (e:y=S [41]):(!decide (V.str (S (l.drop (l.length - 1)))=V.str y))=decide (l.getLast?≠some 41):=by
 subst e
 rw[Td]
 simp only[Bool.not_eq_true',decide_eq_false_iff_not,decide_eq_true_eq]
 rcases Vi l with rfl | ⟨q,x,rfl⟩
 ·refine not_congr ⟨fun z=>?_,fun z=>by cases z⟩
  have:=oG (V.str.inj z)
  cases this
 ·rw[Vj,List.getLast?_concat,Rf,Rk,Wt,List.drop_left]
  refine not_congr ⟨fun z=>?_,fun z=>by rw[RQ z]⟩
  rw[(TJ (oG (V.str.inj z))).1]
theorem wO {H:Hp}:∀ fs:List Nat,eN H (fs.map sgV) (fs.map fun x=>.str (S [x]))
 | []=>.nil
 | x::r=>.cons (.str _) (wO r)
theorem KQ (fs:List Nat):jb (fs.map fun x=>Dm.str (S [x]))<=2:=pW fun d hd=>by
 obtain⟨n,_,rfl⟩:=List.mem_map.mp hd
 simp [Dm.dep]
theorem zj:∀ a b:List Nat,tV (a.map fun x=>Dm.str (S [x])) (b.map fun x=>Dm.str (S [x]))=decide (a=b)
 | [],[]=>by rw[decide_eq_true rfl]; rfl
 | [],_::_=>by rw[decide_eq_false (by simp)]; rfl
 | _::_,[]=>by rw[decide_eq_false (by simp)]; rfl
 | x::a,y::b=>by
  rw[Tv,Tv,tV,zj a b,eqD,Td,Rp,beq_iff_eq,decide_eq_true_eq,decide_eq_true_eq]
  constructor
  ·rintro⟨z,rfl⟩
   rw[(TJ (oG z)).1]
  ·intro z
   rw[(TJ z).1,(TJ z).2]
   exact⟨rfl,rfl⟩
theorem MP (g n:Nat):(Rq n [sgV g]).flatten=(Rq n g).map sgV:=by
 induction n with
 | zero=>rfl
 | succ n ih=>rw[Tz,WM,ih,Tz,Tv]; rfl
theorem Nv (g:Nat) (h:g=38∨g=124):atI [V.str ("any" : Str),V.str ("all" : Str)] (if g=38 then 1 else 0)=some (.str (knd g)):=by
 rcases h with rfl | rfl <;> rfl
theorem iQ {k d:Nat} (F:Fun K "_law_read" "_law_read" ni f fd) (B:Bt mg) (hk:2<=k) (hd:d<=4)
  (D_law_plain:Df P w K mg base "_law_plain" 2 ["_law_text"] (Ia Ty lwP Rep)) (D_law_pieces:Df P w K mg base "_law_pieces" 1 ["_law_text"] Qd) (D_law_read:Df P w K mg base "_law_read" k ["_law_text","_law_deep"] (Hw d)):dB P w K mg base CX0 (k+1) f fd ["_law_text","_law_deep"] (Hw (d+1)):=by
 refine F.ok iw (fun vs H Q E h=>?_) (fun cdv A outer s H vs Q E hr h=>?_)
 ·obtain⟨l,dp,rfl,_⟩:=h
  rfl
 ·obtain⟨l,dp,rfl,hdp,dp1,ty,q,qn⟩:=h
  refine⟨_,(au (bu (aD rM (bI (r:=rm) dR (pv 0) cQ (bQ aq)) aC (aK _)) (aA (aJ (bF D_law_plain hr (aa (pv 0) ao)))) aM)
 (au (sO (bF D_law_pieces hr (aa (bI (r:=rm) dR (pv 0) (bQ aq) (bQ (uw lX aq))) ao)) (f9 (K:=K) 2 rfl rfl (bz (aN (i:=2) iw.nd rfl (RJ rfl)) (bz (aN (i:=3) iw.nd rfl (RJ rfl)) fY))))
 (au (bu (PW.pt (dW (aD rM (bI (r:=rm) dR (pv 0) (bQ (uw lX aq)) cQ) aC (aK _)) (dW (aD uN (pv 1) aq (aK _)) (dW (sE (pR (pv 2))) (dY (dH (ph mF mF aq (aG (r:=nZ K) bf rfl B.len_ bW (aa (pv 2) ao)) aq))))))) (aA (aJ gK)) aM)
 (au (qW (L:=["_law_piece"]) (F:=["_law_deep"]) (cap:=[1]) (j:=4) iw.nd rfl (RJ rfl) rfl (bU rfl rfl (by kernel_rfl)) (fD (pv 2)) (fun _ _ _ _ _=>(aN (i:=0) (bM (by decide+kernel)) rfl (RJ rfl))) (fun _ _ _ _ _=>cF) (fun _ _ _ _ _=>(bF D_law_read hr (aa (pv 0) (aa (aL gQ (pv 1) aq) ao)))))
 (au (bu (PW.pt (dW (aD (r:=Mg 10 false) (JB hr (by decide)) gK (pv 4) rfl) (dY (aD (r:=J9 2) (Dj hr (by decide)) (pv 3) (aL Ms (cj (aa (aQ (r:=d8 K) aO (pv 3) aq (fun _ _=>rfl)) ao)) (aG (r:=nZ K) bf rfl B.len_ bW (aa (pv 3) ao))) (aK _))))) (aA (aJ gK)) aM)
 (aA (aJ (bh (aa (aQ (r:=d8 K) aO (cj (aa aC (aa aC ao))) (aX (r:=Cp) jC rfl B.int_ jR (aa (cR cD (aQ (r:=d8 K) aO (pv 3) aq (fun _ _=>rfl)) aC (aK _)) ao)) (fun _ _=>rfl)) (aa (aX (r:=gq K) bD rfl B.tuple_ bJ (aa (pv 4) ao)) ao)))))))))),?_⟩
  obtain⟨e,rfl⟩:∃ e,dp=e+1:=⟨dp - 1,by lia⟩
  rw[lwR] at q qn
  have tl:=ty.1.2
  refine⟨_,rfl,_,rfl,S l,rfl,dj (by lia),?_,rfl,_,rfl,?_⟩
  ·rw[Ei]
   exact dj (by rw[RN]; lia)
  rw[Ei,Ml l oJ]
  by_cases h1:l.head?≠some 40
  ·rw[if_pos h1] at q qn
   rw[decide_eq_true h1]
   exact bR ⟨_,rfl,l,rfl,ty,q,qn⟩
  rw[if_neg h1] at q qn
  rw[decide_eq_false h1]
  have il:=pZ l
  have ti:=ty.inf il
  refine dF ⟨_,rfl,_,rfl,_,rfl,_,rfl,S l,rfl,dj (by lia),?_,jJ l,?_,ti.1,?_⟩
  ·show (fK (S l) (some 1) (some (-1))).length<=_
   rw[zq]
   exact dj (by have:=ti.1.2; lia)
  ·show[V.str (fK (S l) (some 1) (some (-1)))]=_
   rw[zq]
  have lst:∀ {H5:Hp} {σ:St} {N:Bool->Hp->Prop} ,True:=trivial
  refine⟨fun hp a v H5 s5 ea=>?_,fun ps hp a p b H5 s5 ea ep eb=>?_⟩
  ·-- no pieces
   have QN:∀ H',bc H H'->Q .non H':=qn (by
    split
    ·rfl
    ·split
     ·rfl
     ·unfold lwG
      rw[hp])
   refine⟨a,_,rfl,SqT.of ea,rfl,_,_,rfl,_,_,rfl,rfl,?_⟩
   refine⟨_,rfl,_,rfl,_,rfl,S l,rfl,dj (by lia),?_,rfl,_,rfl,jG (fun _=>bR (QN H5 s5)) (fun _=>?_)⟩
   ·show (fK (S l) (some (-1)) none).length<=_
    rw[xx]
    exact dj (by rw[T8]; lia)
   refine⟨_,rfl,_,_,rfl,rfl,_,rfl,jG (fun _=>bR (QN H5 s5)) (fun _=>?_)⟩
   exact⟨_,rfl,_,rfl,bR (bR (QN H5 s5))⟩
  ·refine⟨a,_,rfl,SqT.of ea,rfl,_,_,rfl,_,_,rfl,rfl,?_⟩
   refine⟨_,rfl,_,rfl,_,rfl,S l,rfl,dj (by lia),?_,rfl,_,rfl,?_⟩
   ·show (fK (S l) (some (-1)) none).length<=_
    rw[xx]
    exact dj (by rw[T8]; lia)
   rw[show fK (S l) (some (-1)) none=_ from xx l,Mp l rN]
   by_cases h2:l.getLast?≠some 41
   ·rw[if_pos h2] at qn
    rw[decide_eq_true h2]
    exact bR (bR (qn rfl H5 s5))
   rw[if_neg h2] at q qn
   rw[decide_eq_false h2]
   refine dF ?_
   refine⟨_,rfl,_,_,rfl,rfl,_,rfl,?_⟩
   by_cases h0:e=0
   ·rw[if_pos h0] at qn
    exact lY (by lia) (bR (qn rfl H5 s5))
   rw[if_neg h0] at q qn
   refine dU (by lia) ?_
   refine⟨_,rfl,_,rfl,dU (fun z=>nomatch z) ?_⟩
   have lps:(((ps.map S).map V.str).length:Int)=(ps.length:Int):=by rw[Q8,Q8]
   unfold lwG at q qn
   rw[hp] at q qn
   dsimp only at q qn
   refine⟨_,rfl,p,_,rfl,.inl (SqL.of ep),_,_,rfl,rfl,_,rfl,?_⟩
   rw[lps]
   by_cases c2:2<=ps.length
   case neg =>
    rw[if_pos (show ¬ (2<=ps.length/\ps.length<=6) from fun z=>c2 z.1)] at qn
    exact dU (by lia) ⟨_,rfl,bR (qn rfl H5 s5)⟩
   refine lY (by lia) ⟨_,_,rfl,rfl,_,rfl,?_⟩
   by_cases c6:ps.length<=6
   case neg =>
    rw[if_pos (show ¬ (2<=ps.length/\ps.length<=6) from fun z=>c6 z.2)] at qn
    have e6:decide ((ps.length:Int)<=6)=false:=decide_eq_false (by lia)
    show (if (!decide ((ps.length:Int)<=6))=true then _ else _)
    rw[e6]
    exact bR (qn rfl H5 s5)
   rw[if_neg (fun z=>z ⟨c2,c6⟩)] at q qn
   have e6:decide ((ps.length:Int)<=6)=true:=decide_eq_true (by lia)
   show (if (!decide ((ps.length:Int)<=6))=true then _ else _)
   rw[e6]
   refine dF ?_
   obtain⟨gs,hgs⟩:∃ gs,pcA (jJ l) 0 [] [] []=(some ps,gs):=⟨_,by rw[← hp]⟩
   obtain⟨lg,infp,gg⟩:=Ny hgs
   rw[hgs] at q qn eb
   dsimp only at q qn eb
   have dp5:e < d:=by lia
   have e1:1<=e:=by lia
   refine⟨_,rfl,p,rfl,⟨_,SqL.of ep⟩,fun D hD=>eX (K:=K) (a:=p) (xs:=(ps.map S).map V.str) (fun i zs σ' H6=>(∃ u,σ'=[u,some (.int ((e+1:Nat):Int))])/\eN H6 zs ((ps.take i).map fun p=>oD (lwR e p))/\bc H5 H6/\H6 D=some (.lst zs))
    ⟨⟨_,rfl⟩,.nil,az hD _,aj⟩ (fun i zs σ' H6 _ h=>⟨SqL.of (h.2.2.1 _ _ ep),h.2.2.2⟩) ?_ ?_⟩
   ·rintro j zs x σ' H6 hx ⟨⟨u,rfl⟩,rz,sm,hDl⟩
    rw[Rz,Rz] at hx
    cases hi:ps[j]? with
    | none=>rw[hi] at hx; cases hx
    | some y =>
     rw[hi] at hx
     have hx:V.str (S y)=x:=RQ hx
     subst hx
     have lz:=rz.length
     rw[Q8,RN] at lz
     have tyy:∀ z∈ps,Ty z:=fun z hz=>ti.inf (infp z hz)
     have ok:∀ d∈((ps.take j).map fun p=>oD (lwR e p)),d = .non∨pd d=true:=fun d0 h0=>by
      obtain⟨z,hz,rfl⟩:=List.mem_map.mp h0
      cases ez:lwR e z with
      | none=>exact .inl rfl
      | some x=>exact .inr (yV e1 (tyy z (Vo hz)).1 ez)
     have nx:((ps.take (j+1)).map fun p=>oD (lwR e p))=((ps.take j).map fun p=>oD (lwR e p))++[oD (lwR e y)]:=by
      rw[SJ,hi,Rx]
      rfl
     have step:∀ (v:V) (H7:Hp),bc H6 H7->Rep H7 v (oD (lwR e y))->eN (upd H7 D (.lst (zs++[v]))) (zs++[v]) ((ps.take (j+1)).map fun p=>oD (lwR e p)):=fun v H7 s7 rv=>by
      rw[nx]
      have kp:∀ a xs,H7 a=some (HO.tup xs)->upd H7 D (.lst (zs++[v])) a=some (HO.tup xs):=eO (s7 _ _ hDl)
      refine lM (qL kp (rz.mono s7) ok) (qL kp (.cons rv .nil) fun d0 h0=>?_)
      rw[List.mem_singleton.mp h0]
      cases ez:lwR e y with
      | none=>exact .inl rfl
      | some x=>exact .inr (yV e1 (tyy y (RL hi)).1 ez)
     refine gT ?_
     refine⟨_,rfl,_,rfl,_,_,rfl,rfl,y,e,(by show[V.str (S y),V.int (((e+1:Nat):Int) - 1)]=_; rw[show ((e+1:Nat):Int) - 1=(e:Int) by lia]),dp5,e1,tyy y (RL hi),fun x ex v H7 s7 rv=>?_,fun ex H7 s7=>?_⟩
     ·refine⟨s7 _ _ hDl,bj (by lia),⟨_,rfl⟩,step v H7 s7 (by rw[ex]; exact rv),aY (sm.trans s7) hD _,aj⟩
     ·refine⟨s7 _ _ hDl,bj (by lia),⟨_,rfl⟩,step .non H7 s7 (by rw[ex]; exact .non),aY (sm.trans s7) hD _,aj⟩
   ·rintro zs σ' H6 ⟨_,rz,sm,eD⟩
    rw[Q8,Q8,R6] at rz
    have s6:=s5.trans sm
    have dz:jb (ps.map fun p=>oD (lwR e p))<=10:=pW fun d0 h0=>by
     obtain⟨z,hz,rfl⟩:=List.mem_map.mp h0
     cases ez:lwR e z with
     | none=>simp [oD,Dm.dep]
     | some x =>
      have:=(kE e ez).2
      show x.dep<=10
      lia
    refine⟨_,rfl,.non,D,zs,_,.non,rfl,eD,rz,dz,_,rfl,?_⟩
    rw[show (if false=true then _ else (ps.map fun p=>oD (lwR e p)).any fun e=>eqD e .non)=_ from O8 (fun p x h=>(kE e h).1) ps]
    cases es:dX (lwR e) ps with
    | none =>
     rw[es] at qn
     exact lY rfl (bR (qn rfl H6 s6))
    | some ds =>
     rw[es] at q qn
     dsimp only at q qn
     refine dU (fun z=>nomatch z) ?_
     rw[O6 es] at rz
     have eb6:=sm _ _ eb
     obtain⟨g,gr,rfl⟩:∃ g gr,gs=g::gr:=by
      cases gs with
      | nil=>simp at lg; lia
      | cons g gr=>exact⟨g,gr,rfl⟩
     refine⟨_,rfl,_,rfl,b,_,_,_,rfl,rfl,SqL.of eb6,aF (k:=0) rfl,?_⟩
     have lgr:gr.length<=5:=by rw[Rg] at lg; lia
     refine⟨small (by show 1<=1000; decide),fun p4 h4=>?_⟩
     generalize eH7:upd H6 p4 _=H7
     obtain⟨g7,e7⟩:=aH eH7 h4
     have eb7:=g7 _ _ eb6
     refine⟨_,rfl,b,_,rfl,.inl (SqL.of eb7),p4,_,_,rfl,rfl,e7,?_,?_,?_,fun p5 h5=>?_⟩
     ·rw[Q8]; lia
     ·rw[Q8,Rg]; lia
     ·rw[Q8,Rg]
      exact RP (show _<=1000 by simp; lia) (by decide)
     generalize eH8:upd H7 p5 _=H8
     obtain⟨g8,e8⟩:=aH eH8 h5
     rw[Q8,Th,MP] at e8
     have eb8:=g8 _ _ eb7
     have s8:=s6.trans (g7.trans g8)
     refine⟨b,p5,_,_,_,_,rfl,rfl,eb8,e8,wO _,wO _,KQ _,_,rfl,?_⟩
     rw[zj]
     by_cases cr:g::gr=Rq (g::gr).length g
     case neg =>
      rw[if_pos (show g::gr≠Rq (g::gr).length ((g::gr).headD 0) from cr)] at qn
      rw[decide_eq_false cr]
      exact bR (qn rfl H8 s8)
     rw[if_neg (show ¬ (g::gr≠Rq (g::gr).length ((g::gr).headD 0)) from fun z=>z cr)] at q
     rw[decide_eq_true cr]
     refine dF ?_
     refine⟨small (by show 2<=1000; decide),fun p6 h6=>?_⟩
     generalize eH9:upd H8 p6 _=H9
     obtain⟨g9,e9⟩:=aH eH9 h6
     have eb9:=g9 _ _ eb8
     have gO:=gg g Rc
     refine⟨_,rfl,b,_,_,_,rfl,rfl,SqL.of eb9,aF (k:=0) rfl,rfl,.inr ⟨_,rfl,?_⟩⟩
     have ek:decide (sgV g=V.str ("&" : Str))=decide (g=38):=Cy g 38 BX
     have eD9:=g9 _ _ (g8 _ _ (g7 _ _ eD))
     refine⟨p6,_,_,_,rfl,rfl,SqL.of e9,(by rw[ek]; simp only[decide_eq_true_eq]; exact Nv g gO),?_⟩
     refine⟨_,rfl,D,_,rfl,.inl ⟨SqL.of eD9,fun p7 h7=>?_⟩⟩
     refine⟨small (by show 2<=1000; decide),fun p8 h8=>?_⟩
     have lz:=rz.length
     have lds:=cg es
     have g79:=(az h7 (.tup zs)).trans (az h8 (.tup [.str (knd g),.ref p7]))
     refine q (grD g ds) rfl (.ref p8) _ (s8.trans (g9.trans g79)) ?_
     exact .tup aj (show 2<=100000 by decide) (.cons (.str _) (.cons (.tup (az h8 _ _ _ aj) (by lia) (rz.mono (g7.trans (g8.trans (g9.trans g79))))) .nil))
abbrev fC:Stmt:=top 49
theorem bG:aV ["_law_text","_law_found","_law_word_here","_law_parts","_law_step","_law_term_here","_law_steps"] ["_law_text"] (aB fC):=⟨rfl,rfl,rfl,by decide+kernel,rfl,by decide+kernel,by decide+kernel⟩
theorem Js {l:List Nat} {r:Nat × Dm} (t:Tx l) (h:Bx l=some r):pd (rgD r)=true:=by
 unfold Bx at h
 split at h
 ·cases h
 obtain⟨n,_,h⟩:=Option.bind_eq_some_iff.mp h
 obtain⟨d,hd,h⟩:=Option.bind_eq_some_iff.mp h
 split at h
 ·cases h
  exact GC (yV (by decide) (t.inf (gm (lG (fG 63 l)))) hd)
 ·cases h
theorem mV (F:Fun K "_law_read_rungs" "_law_read_rungs" fC f fd) (B:Bt mg)
  (D_law_number:Df P w K mg base "_law_number" 1 ["_law_text"] (Ia Tx cZ KR)) (D_law_read:Df P w K mg base "_law_read" 6 ["_law_text","_law_deep"] (Hw 5)):dB P w K mg base CX0 7 f fd ["_law_text"] (Ia Ty Ce Rep):=by
 refine F.ok bG (fun vs H Q E h=>?_) (fun cdv A outer s H vs Q E hr h=>?_)
 ·obtain⟨l,rfl,_⟩:=h
  rfl
 ·obtain⟨l,rfl,ty,q,qn⟩:=h
  refine⟨_,(au (aU (i:=1) bG.nd rfl (RJ rfl) (cj ao))
 (au (gC TX rfl (fD (gA Sq Ux Uw iB (pv 0) (aa aC ao))) (aN (i:=2) bG.nd rfl (RJ rfl)) (au (aU (i:=3) bG.nd rfl (RJ rfl) (gA Sq Ux Uw iB (pv 2) (aa aC ao)))
 (au (aU (i:=4) bG.nd rfl (RJ rfl) (bF D_law_number hr (aa (aQ (r:=d8 K) aO (pv 3) aq (fun _ _=>rfl)) ao)))
 (au (aU (i:=5) bG.nd rfl (RJ rfl) (bF D_law_read hr (aa (aQ (r:=d8 K) aO (pv 3) (uw lX aq) (fun _ _=>rfl)) (aa aq ao))))
 (au (bu (PW.pt (dW (aD rM (aG (r:=nZ K) bf rfl B.len_ bW (aa (pv 3) ao)) aq (aK _)) (dW (sE (pR (pv 4))) (dW (sE (pR (pv 5))) (dY (dH (ph mF mF aq (pv 4) aq))))))) (aA (aJ gK)) aM)
 (aA (iG (gA Uo Ui Uh dw (pv 1) (aa (bh (aa (pv 4) (aa (pv 5) ao))) ao)))))))))
 (au (qW (L:=["_law_step","_law_term_here"]) (F:=[]) (cap:=[]) (j:=6) bG.nd rfl (RJ rfl) rfl (bU rfl rfl (by kernel_rfl)) (fD (pv 1)) (fun _ _ _ _ _=>(f9 (K:=K) 2 rfl rfl (bz (aN (i:=0) (bM (by decide+kernel)) rfl (RJ rfl)) (bz (aN (i:=1) (bM (by decide+kernel)) rfl (RJ rfl)) fY)))) (fun _ _ _ _ _=>cF) (fun _ _ _ _ _=>(pv 0)))
 (aA (aJ (gR (PW.pt (nU (aD uN (aG (r:=nZ K) bf rfl B.len_ bW (aa (pv 1) ao)) aq (aK _)) (ji (aD (r:=K7 K) (JT hr.pQ) (pv 6) (gF rfl rfl B.sorted_ rfl B.set_ (aa (pv 6) ao)) (aK _))))) (aX (r:=gq K) bD rfl B.tuple_ bJ (aa (pv 1) ao)) gK)))))),?_⟩
  have tl:=ty.1.2
  have l44:=fO 44 l
  unfold Ce at q qn
  refine⟨small (by show 0<=1000; decide),fun b hb=>?_⟩
  generalize eH1:upd H b _=H1
  obtain⟨g1,e1⟩:=aH eH1 hb
  refine⟨_,rfl,rfl,_,_,rfl,rfl,rfl,by rw[cA]; lia,by rw[mK,dZ,Q8]; lia,fun p hp=>?_⟩
  rw[mK,dZ]
  generalize eH2:upd H1 p _=H2
  obtain⟨g2,e2⟩:=aH eH2 hp
  have hpb:p≠b:=fun z=>by rw[z,e1] at hp; cases hp
  refine⟨p,rfl,⟨_,SqL.of e2⟩,o5 (K:=K) (a:=p) (xs:=((spl 44 l).map S).map V.str) (fun i σ H3=>∃ (rs:List (Nat × Dm)) (zs:List V) (u2 u3 u4 u5:Option V),σ=[some (.str (S l)),some (.ref b),u2,u3,u4,u5,none]/\dX Bx ((spl 44 l).take i)=some rs/\eN H3 zs (rs.map rgD)/\bc H H3/\H3 p=some (.lst (((spl 44 l).map S).map V.str))/\H3 b=some (.lst zs))
   ⟨[],[],_,_,_,_,rfl,rfl,.nil,g1.trans g2,e2,g2 _ _ e1⟩ (fun i σ H3 _ h=>by obtain⟨_,_,_,_,_,_,_,_,_,_,e,_⟩:=h; exact SqL.of e) ?_ ?_⟩
  ·rintro j x σ H3 hx ⟨rs,zs,u2,u3,u4,u5,rfl,ed,rz,sm,ep,eb⟩
   rw[Rz,Rz] at hx
   cases hi:(spl 44 l)[j]? with
   | none=>rw[hi] at hx; cases hx
   | some y =>
    rw[hi] at hx
    have hx:V.str (S y)=x:=RQ hx
    subst hx
    obtain⟨t1,t2⟩:=jo ed hi
    have iy:=gm (RL hi)
    have tyy:=ty.inf iy
    have QN:Bx y=none->∀ H',bc H H'->Q .non H':=fun hn=>qn (by rw[t2 hn]; rfl)
    have nl:=cg ed
    rw[RN] at nl
    have lz:=rz.length
    rw[Q8] at lz
    have ok:∀ d∈rs.map rgD,pd d=true:=fun d hd=>by
     obtain⟨r0,hr0,rfl⟩:=List.mem_map.mp hd
     obtain⟨p0,hp0,ep0⟩:=fc ed r0 hr0
     exact Js (ty.inf (gm (Vo hp0))).1 ep0
    have n63:=fG 63 y
    have k63:=fO 63 y
    have m63:∀ q∈spl 63 y,Inf q y:=fun q hq=>gm hq
    have ldf:Bx y=(if (spl 63 y).length≠2 then none else (cZ ((spl 63 y).headD [])).bind fun n=>(lwR 4 ((spl 63 y).getLastD [])).bind fun d=>if 1<=n/\n<=9 then some (n,d) else none):=rfl
    have ly:=tyy.1.2
    refine⟨_,rfl,rfl,_,_,rfl,rfl,rfl,by rw[cA]; lia,by rw[zY,dZ,Q8]; lia,fun p1 h1=>?_⟩
    rw[zY,dZ]
    generalize spl 63 y=qs at *
    generalize eH4:upd H3 p1 _=H4
    obtain⟨g4,e4⟩:=aH eH4 h1
    refine⟨_,rfl,p1,_,_,_,rfl,rfl,SqL.of e4,aF (k:=0) (yM (pF (d:=[]) n63)),?_⟩
    have i0:=m63 _ (head_mem (d:=[]) n63)
    have i9:=m63 _ (lG (d:=[]) n63)
    generalize qs.headD []=sw at *
    have hb0:H b=none:=hb
    refine⟨sw,rfl,tyy.1.inf i0,fun n hn v H5 s5 hv=>?_,fun hn H5 s5=>?_⟩
    ·cases hv
     have e5:=s5 _ _ e4
     refine⟨_,rfl,_,rfl,p1,_,_,_,rfl,rfl,SqL.of e5,yw n63,?_⟩
     generalize qs.getLastD []=tw at *
     refine⟨tw,4,rfl,by decide,by decide,tyy.inf i9,fun d hd v H6 s6 rv=>?_,fun hd H6 s6=>?_⟩
     ·have sm6:=sm.trans (g4.trans (s5.trans s6))
      have e6:=s6 _ _ e5
      refine⟨_,rfl,p1,_,rfl,.inl (SqL.of e6),rfl,_,rfl,?_⟩
      by_cases c2:qs.length=2
      case neg =>
       rw[if_pos c2] at ldf
       exact Ba (by rw[Q8,Q8,decide_eq_false (fun z=>c2 (by injection z with z; lia))]; rfl) (bR (QN ldf H6 sm6))
      rw[if_neg (fun z=>z c2),hn,hd] at ldf
      refine jf (by rw[Q8,Q8,c2]; rfl) ?_
      refine⟨_,rfl,_,rfl,dU (fun z=>nomatch z) ?_⟩
      obtain⟨ds,rfl⟩:=(kE 4 hd).1
      have pdd:pd (rgD (n,.tup ds))=true:=GC (yV (by decide) (tyy.inf i9).1 hd)
      obtain⟨a,rfl⟩:∃ a,v = .ref a:=by cases rv with | tup _ _ _=>exact⟨_,rfl⟩
      refine⟨_,rfl,_,rfl,dU (fun z=>nomatch z) ?_⟩
      refine chN rfl (p:=1<=n/\n<=9) (by lia) ⟨_,rfl,?_⟩
      by_cases d2:1<=n/\n<=9
      case neg =>
       rw[decide_eq_false d2]
       exact bR (QN (by rw[ldf]; exact if_neg d2) H6 sm6)
      rw[decide_eq_true d2]
      refine dF ?_
      have ldf:Bx y=some (n,.tup ds):=by rw[ldf]; exact if_pos d2
      have eb6:=s6 _ _ (s5 _ _ (g4 _ _ eb))
      have ep6:=s6 _ _ (s5 _ _ (g4 _ _ ep))
      refine⟨_,rfl,.inl ⟨rfl,_,SqL.of eb6⟩,_,rfl,_,rfl,small (by show 2<=1000; decide),fun p7 h7=>?_⟩
      generalize eH7:upd H6 p7 _=H7
      obtain⟨g7,e7⟩:=aH eH7 h7
      have eb7:=g7 _ _ eb6
      have r7:Rep H7 (.ref p7) (rgD (n,.tup ds)):=.tup e7 (show 2<=100000 by decide) (.cons (.int _) (.cons (rv.mono g7) .nil))
      have kp:∀ a xs,H7 a=some (HO.tup xs)->upd H7 b (.lst (zs++[.ref p7])) a=some (HO.tup xs):=eO eb7
      refine⟨b,zs,_,rfl,rfl,eb7,Sw (show _<=100000 by lia) (by decide),?_⟩
      refine⟨rs++[(n,.tup ds)],zs++[.ref p7],_,_,_,_,rfl,t1 _ ldf,?_,aY (sm6.trans g7) hb0 _,?_,aj⟩
      ·rw[Rx]
       exact lM (qw kp (rz.mono (g4.trans (s5.trans (s6.trans g7)))) (qg ok)) (.cons (vG kp r7 pdd) .nil)
      ·rw[aR hpb]
       exact g7 _ _ ep6
     ·have sm6:=sm.trans (g4.trans (s5.trans s6))
      have e6:=s6 _ _ e5
      have QM:∀ H',bc H H'->Q .non H':=QN (by
       rw[ldf]
       split
       ·rfl
       ·rw[hn,hd]; rfl)
      refine⟨_,rfl,p1,_,rfl,.inl (SqL.of e6),rfl,_,rfl,jG (fun _=>bR (QM H6 sm6)) (fun _=>?_)⟩
      refine⟨_,rfl,_,rfl,dU (fun z=>nomatch z) ?_⟩
      exact⟨_,rfl,_,rfl,bR (bR (QM H6 sm6))⟩
    ·have e5:=s5 _ _ e4
     have QM:∀ H',bc H H'->Q .non H':=QN (by
      rw[ldf]
      split
      ·rfl
      ·rw[hn]; rfl)
     refine⟨_,rfl,_,rfl,p1,_,_,_,rfl,rfl,SqL.of e5,yw n63,?_⟩
     refine⟨_,4,rfl,by decide,by decide,tyy.inf i9,fun d hd v H6 s6 rv=>?_,fun hd H6 s6=>?_⟩
     ·have sm6:=sm.trans (g4.trans (s5.trans s6))
      refine⟨_,rfl,p1,_,rfl,.inl (SqL.of (s6 _ _ e5)),rfl,_,rfl,jG (fun _=>bR (QM H6 sm6)) (fun _=>?_)⟩
      exact⟨_,rfl,_,rfl,bR (bR (QM H6 sm6))⟩
     ·have sm6:=sm.trans (g4.trans (s5.trans s6))
      refine⟨_,rfl,p1,_,rfl,.inl (SqL.of (s6 _ _ e5)),rfl,_,rfl,jG (fun _=>bR (QM H6 sm6)) (fun _=>?_)⟩
      exact⟨_,rfl,_,rfl,bR (bR (QM H6 sm6))⟩
  ·rintro σ H3 ⟨rs,zs,u2,u3,u4,u5,rfl,ed,rz,sm,ep,eb⟩
   rw[Q8,Q8,R6] at ed
   rw[ed] at q qn
   have q:∀ x,(if rs.length < 10/\(rs.map V7).Pairwise (· < ·) then some (plD rs) else none)=some x->∀ v H',bc H H'->Rep H' v x->Q v H':=q
   have qn:(if rs.length < 10/\(rs.map V7).Pairwise (· < ·) then some (plD rs) else none)=none->∀ H',bc H H'->Q .non H':=qn
   have lz:=rz.length
   have ls:=cg ed
   rw[Q8] at lz
   refine⟨_,rfl,b,rfl,⟨_,SqL.of eb⟩,fun D hD=>eX (K:=K) (a:=b) (xs:=zs) (fun i ys σ' H4=>(∃ u u',σ'=[u,u'])/\ys=((rs.take i).map V7).map vN/\bc H3 H4/\H4 D=some (.lst ys))
    ⟨⟨_,_,rfl⟩,rfl,az hD _,aj⟩ (fun i ys σ' H4 _ h=>⟨SqL.of (h.2.2.1 _ _ eb),h.2.2.2⟩) ?_ ?_⟩
   ·rintro j ys x σ' H4 hx ⟨⟨u,u',rfl⟩,ez,s4,hDl⟩
    have hj:j < rs.length:=by
     have:=(List.getElem?_eq_some_iff.mp hx).1
     lia
    obtain⟨v,hv,rv⟩:=sV rz (k:=j) (by rw[Q8]; exact hj)
    rw[hx] at hv
    cases hv
    rw[RZ,Rz,Rn hj] at rv
    have rv:Rep H3 x (rgD rs[j]):=rv
    have nx:ys++[vN rs[j].1]=((rs.take (j+1)).map V7).map vN:=by
     rw[ez,SJ,Rn hj,Rx,Rx]
     rfl
    have ly:ys.length<=100000:=by
     rw[ez,Q8,Q8,RN]
     lia
    generalize rs[j]=r0 at rv nx
    obtain⟨n0,d0⟩:=r0
    have go2:∃ (r:Addr) (y2:V),x = .ref r/\H3 r=some (.tup [vN n0,y2]):=by
     cases rv with
     | tup hr0 _ rl =>
      obtain⟨u1,e1,u2,e2,rfl,e3,r1,r2⟩:=rl2 rl rfl
      cases e3
      cases r1
      exact⟨_,_,rfl,hr0⟩
    obtain⟨r,y2,rfl,hr0⟩:=go2
    refine⟨r,_,rfl,SqT.of (s4 _ _ hr0),rfl,_,_,rfl,_,_,rfl,rfl,tT ?_⟩
    exact⟨_,rfl,hDl,Sw ly (by decide),⟨_,_,rfl⟩,nx,aY s4 hD _,aj⟩
   ·rintro ys σ' H4 ⟨_,ez,s4,eD⟩
    rw[lz,R6] at ez
    have eb4:=s4 _ _ eb
    have s5:=sm.trans s4
    refine⟨_,rfl,b,_,rfl,.inl (SqL.of eb4),_,_,rfl,rfl,_,rfl,?_⟩
    rw[lz]
    by_cases c9:rs.length < 10
    case neg=>exact dU (by lia) (dF (qn (if_neg fun z=>c9 z.1) H4 s5))
    refine lY (by lia) ?_
    rw[ez,uA] at eD
    have lsm:((rs.map V7).map fun n:Nat=>(n:Int)).length=rs.length:=by rw[Q8,Q8]
    refine⟨_,rfl,_,rfl,D,_,rfl,SqL.of eD,by lia,yH (by lia),fun ms pm so l2 hl2=>?_⟩
    generalize eH6:upd H4 l2 _=H6
    obtain⟨g6,e6⟩:=aH eH6 hl2
    refine⟨D,l2,_,ms,rfl,rfl,SqL.of (g6 _ _ eD),SqL.of e6,_,rfl,?_⟩
    have eri:((rs.map V7).map fun n:Nat=>(n:Int))=ms ↔ (rs.map V7).Pairwise (· < ·):=(vf pm so).trans (EY _)
    by_cases hpw:(rs.map V7).Pairwise (· < ·)
    ·rw[decide_eq_true (eri.mpr hpw)]
     refine bR ⟨_,rfl,b,_,rfl,.inl ⟨SqL.of (g6 _ _ eb4),fun p5 h5=>?_⟩⟩
     exact q (plD rs) (if_pos ⟨c9,hpw⟩) (.ref p5) _ (s5.trans (g6.trans (az h5 _))) (.tup aj (by lia) (rz.mono (s4.trans (g6.trans (az h5 _)))))
    ·rw[decide_eq_false (fun z=>hpw (eri.mp z))]
     exact dF (qn (if_neg fun z=>hpw z.2) H6 (s5.trans g6))
theorem NP {n a:Nat} {hi:Option Int} (h:n < a):RB (some ((a:Nat):Int)) hi 1 n=RB (some ((n:Nat):Int)) hi 1 n:=by
 unfold RB
 dsimp only
 congr 1
 rw[if_neg (show ¬ ((a:Nat):Int) < 0 by lia),if_neg (show ¬ ((n:Nat):Int) < 0 by lia)]
 simp only[show (1:Int) > 0 from by decide,if_true]
 lia
theorem Fd (l:List Nat) (a:Nat):fK (S l) (some (a:Int)) none=S (l.drop a):=by
 by_cases h:a<=l.length
 ·exact pB h
 ·have e2:fK (S l) (some (a:Int)) none=fK (S l) (some ((l.length:Nat):Int)) none:=by
   unfold fK
   rw[cA,NP (by lia)]
  rw[e2,pB (Rh _),W9,Ye (by lia)]
theorem zF {l:List Nat} {a:Nat} (h:a<=l.length):fK (S l) none (some (a:Int))=S (l.take a):=by
 have e:RB none (some (a:Int)) 1 (S l).length=RB (some ((0:Nat):Int)) (some ((a:Nat):Int)) 1 (S l).length:=by
  unfold RB
  dsimp only
  congr 1
 have e2:fK (S l) none (some (a:Int))=fK (S l) (some ((0:Nat):Int)) (some ((a:Nat):Int)):=by
  unfold fK
  rw[e]
 rw[e2,qx (by lia) h]
 rfl
def Tb (k:Nat) (l:List Nat):Prop:=(∀ x∈l,x < 128)/\l.length<=9000/\PR k l
def Tc (k:Nat) (l:List Nat):Prop:=(∀ x∈l,x < 128)/\l.length<=30000/\PR k l
theorem iH {a b:List Nat} (ha:∀ x∈a,x < 128) (hb:∀ x∈b,x < 128):∀ x∈a++b,x < 128:=fun x hx=>(List.mem_append.mp hx).elim (ha x) (hb x)
def GF:List (List Nat):=[[],[48,48],[48,49],Rq 9 49,Rq 10 55,Rq 5000 55,[49,50],[40,49,58,49,41],[40,49,58,49,38,50,58,50,124,51,58,51,41],[49,43,49,58,50],[40,41],[50,43,49,58,57]]
theorem w6 (c n:Nat):pN (S [c]) n=S (Rq n c):=by
 have h:∀ (n:Nat) (a:Array Nat),((Rq n #[c]).foldl (·++·) a).toList=a.toList++Rq n c:=fun n=>by
  induction n with
  | zero=>intro a; simp
  | succ n ih =>
   intro a
   rw[Tz,VD,ih]
   simp [Tz]
 unfold pN
 show (⟨(Rq n (S [c]).cps).foldl (·++·) #[]⟩:Str)=_
 have hc:(S [c]).cps = #[c]:=rfl
 rw[hc]
 have:=h n #[]
 rw[Pn ⟨(Rq n #[c]).foldl (·++·) #[]⟩]
 show S ((Rq n #[c]).foldl (·++·) #[]).toList=_
 rw[this]
 simp
theorem FW:∀ o∈GF,(∀ x∈o,x < 128)/\o.length<=5000/\PR 1 o:=by
 have rep:∀ n c,c < 128->n<=5000->c≠43->(∀ x∈Rq n c,x < 128)/\(Rq n c).length<=5000/\PR 1 (Rq n c):=fun n c hc hn h43 =>
  ⟨fun x hx=>by rw[List.eq_of_mem_replicate hx]; exact hc,by rw[UJ]; exact hn,PR.few (by rw[List.count_replicate,if_neg (by simpa using h43)]; lia)⟩
 have few:∀ o:List Nat,(o.all fun x=>decide (x < 128))=true->o.length<=5000->o.count 43<=1->(∀ x∈o,x < 128)/\o.length<=5000/\PR 1 o:=fun o h1 h2 h3=>⟨fun x hx=>of_decide_eq_true (List.all_eq_true.mp h1 x hx),h2,PR.few h3⟩
 intro o ho
 simp only[GF,Tu,T7,or_false] at ho
 rcases ho with rfl | rfl | rfl | rfl | rfl | rfl | rfl | rfl | rfl | rfl | rfl | rfl
 ·exact few _ (by decide) (by decide) (by decide)
 ·exact few _ (by decide) (by decide) (by decide)
 ·exact few _ (by decide) (by decide) (by decide)
 ·exact rep 9 49 (by decide) (by decide) (by decide)
 ·exact rep 10 55 (by decide) (by decide) (by decide)
 ·exact rep 5000 55 (by decide) (by decide) (by decide)
 ·exact few _ (by decide) (by decide) (by decide)
 ·exact few _ (by decide) (by decide) (by decide)
 ·exact few _ (by decide) (by decide) (by decide)
 ·exact few _ (by decide) (by decide) (by decide)
 ·exact few _ (by decide) (by decide) (by decide)
 ·exact few _ (by decide) (by decide) (by decide)
theorem Tb.take {k:Nat} {l:List Nat} (t:Tb k l) (n:Nat):Tb k (l.take n):=⟨fun x hx=>t.1 x (Vo hx),by rw[RN]; have:=t.2.1; lia,t.2.2.take n⟩
theorem Tb.drop {k:Nat} {l:List Nat} (t:Tb k l) (n:Nat):Tb k (l.drop n):=⟨fun x hx=>t.1 x (List.mem_of_mem_drop hx),by rw[T8]; have:=t.2.1; lia,t.2.2.drop n⟩
theorem Tb.two {k:Nat} {a b:List Nat} (ha:Tb k a) (hb:Tb k b):Tc (2 * k+1) (a++b):=⟨iH ha.1 hb.1,by rw[Rf]; have:=ha.2.1; have:=hb.2.1; lia,(ha.2.2.app hb.2.2).mono (by lia)⟩
theorem Tb.three {k:Nat} {a b m:List Nat} (ha:Tb k a) (hb:Tb k b) (hm:(∀ x∈m,x < 128)/\m.length<=5000/\PR 1 m):Tc (2 * k+1) (a++m++b):=⟨iH (iH ha.1 hm.1) hb.1,by rw[Rf,Rf]; have:=ha.2.1; have:=hb.2.1; have:=hm.2.1; lia,((ha.2.2.app hm.2.2).app hb.2.2).mono (by lia)⟩
theorem yx {x:Nat} (h:x < 128):(∀ y∈[x],y < 128)/\[x].length<=5000/\PR 1 [x]:=⟨fun y hy=>by rw[List.mem_singleton.mp hy]; exact h,by show 1<=5000; lia,PR.few (by rw[List.count_cons,List.count_nil]; split <;> lia)⟩
theorem Tb.in_ {k:Nat} {l:List Nat} (t:Tb k l):Tc (2 * k+1) ([40]++l++[41]):=⟨iH (iH (by decide) t.1) (by decide),by simp only[Rf,Rk]; have:=t.2.1; lia,by
 have h1:PR (k) ([]++40::(l++41::[])):=PR.mid (by decide) (PR.few (by simp)) (PR.mid (by decide) t.2.2 (PR.few (by simp)))
 have e:[40]++l++[41]=[]++40::(l++41::[]):=by simp
 rw[e]
 exact h1.mono (by lia)⟩
theorem Tb.in2 {k:Nat} {l:List Nat} (t:Tb k l):Tc (2 * k+1) ([40]++l++[38]++l++[41]):=⟨iH (iH (iH (iH (by decide) t.1) (by decide)) t.1) (by decide),by simp only[Rf,Rk]; have:=t.2.1; lia,by
 have h1:PR (k) ([]++40::(l++38::(l++41::[]))):=PR.mid (by decide) (PR.few (by simp)) (PR.mid (by decide) t.2.2 (PR.mid (by decide) t.2.2 (PR.few (by simp))))
 have e:[40]++l++[38]++l++[41]=[]++40::(l++38::(l++41::[])):=by simp
 rw[e]
 exact h1.mono (by lia)⟩
def xV:List Nat:=[48,49,50,51,52,53,54,55,56,57,58,43,42,40,41,38,124,63,44,32,102,114,101,101,45,110,101,118,101,114,126,65,90,10]
theorem Lq:(("0123456789:+*()&|?, free-never" : String):Str)++(("~AZ\n" : String):Str)=S xV:=by decide+kernel
theorem FZ:∀ x∈xV,x < 128:=by decide
theorem NZ:[V.str (("" : String):Str),V.str (("00" : String):Str),V.str (("01" : String):Str),V.str (pN (("1" : String):Str) 9),V.str (pN (("7" : String):Str) 10),V.str (pN (("7" : String):Str) 5000),V.str (("12" : String):Str),V.str (("(1:1)" : String):Str),V.str (("(1:1&2:2|3:3)" : String):Str),V.str (("1+1:2" : String):Str),V.str (("()" : String):Str),V.str (("2+1:9" : String):Str)]=(GF.map S).map V.str:=by
 have c1:(("1" : String):Str)=S [49]:=by decide+kernel
 have c7:(("7" : String):Str)=S [55]:=by decide+kernel
 have k0:(("" : String):Str)=S []:=by decide+kernel
 have k1:(("00" : String):Str)=S [48,48]:=by decide+kernel
 have k2:(("01" : String):Str)=S [48,49]:=by decide+kernel
 have k3:(("12" : String):Str)=S [49,50]:=by decide+kernel
 have k4:(("(1:1)" : String):Str)=S [40,49,58,49,41]:=by decide+kernel
 have k5:(("(1:1&2:2|3:3)" : String):Str)=S [40,49,58,49,38,50,58,50,124,51,58,51,41]:=by decide+kernel
 have k6:(("1+1:2" : String):Str)=S [49,43,49,58,50]:=by decide+kernel
 have k7:(("()" : String):Str)=S [40,41]:=by decide+kernel
 have k8:(("2+1:9" : String):Str)=S [50,43,49,58,57]:=by decide+kernel
 rw[c1,c7,w6,w6,w6,k0,k1,k2,k3,k4,k5,k6,k7,k8]
 unfold GF
 simp only[Tv,List.map_nil]
theorem M6 (i:Nat) (h:i < 12):∃ o,GF[i]? = some o/\(∀ x∈o,x < 128)/\o.length<=5000/\PR 1 o:=by
 have hl:GF.length=12:=by unfold GF; rfl
 have e:=Rn (l:=GF) (by rw[hl]; exact h)
 exact⟨_,e,FW _ (RL e)⟩
def Gv (te:TE) (σ:St) (H:Hp) (v:V):Prop:=∀ Q:VK,Q v H->te σ H Q
def Ga (te:TA) (σ:St) (H:Hp) (vs:List V):Prop:=∀ Q:List V->Hp->Prop,Q vs H->te σ H Q
section
variable {σ:St} {H:Hp} {K:R7} {l:List Nat} {a i:Nat} {te tf:TE} {ta:TA} {v:V} {vs:List V}
theorem bL (h:σ[i]? = some (some v)):Gv (Ai i) σ H v:=fun Q q=>⟨v,h,q⟩
theorem Pj:Gv (tC v) σ H v:=fun Q q=>q
theorem Mt {y:Str} {a:List Nat} (e:y=S a):Gv (tC (.str y)) σ H (.str (S a)):=fun Q q=>by rw[← e] at q; exact q
theorem DQ:Ga Fz σ H []:=fun Q q=>q
theorem iD (h:Gv te σ H v) (h2:Ga ta σ H vs):Ga (oO te ta) σ H (v::vs):=fun Q q=>h _ (h2 _ q)
theorem zN (h0:Gv te σ H (.str (S l))) (h1:Gv tf σ H (.int (a:Int))) (hl:l.length<=9000) (ha:a<=l.length):Gv (tSl rm te um (Jd tf)) σ H (.str (S (l.take a))):=fun Q q=>h0 _ (h1 _ ⟨_,rfl,S l,rfl,dj (by lia),by rw[zF ha]; exact dj (by rw[RN]; lia),by rw[zF ha]; exact q⟩)
theorem mL (h0:Gv te σ H (.str (S l))) (h1:Gv tf σ H (.int (a:Int))) (hl:l.length<=9000):Gv (tSl rm te (Jd tf) um) σ H (.str (S (l.drop a))):=fun Q q=>h0 _ (h1 _ ⟨_,rfl,S l,rfl,dj (by lia),by rw[Fd]; exact dj (by rw[T8]; lia),by rw[Fd]; exact q⟩)
theorem fX {a b:List Nat} (h0:Gv te σ H (.str (S a))) (h1:Gv tf σ H (.str (S b))) (hl:a.length+b.length<=1000000):Gv (tOp (fun x y H Q=>∃ i j,x = .str i/\y = .str j/\i.length+j.length<=sizeLine/\Q (.str (i++j)) H) te tf) σ H (.str (S (a++b))):=fun Q q=>h0 _ (h1 _ ⟨_,_,rfl,rfl,fH hl,by rw[eE]; exact q⟩)
theorem Ii (h:Gv te σ H (.int (a:Int))):Gv (tOp (rI0 fun i j=>.int (i+j)) te (tC (.int 1))) σ H (.int ((a+1:Nat):Int)):=fun Q q=>h _ ⟨_,_,rfl,rfl,q⟩
theorem Dt {p:Addr} {xs:List V} {j:Int} (h:Gv te σ H (.ref p)) (h1:Gv tf σ H (.int j)) (hp:H p=some (.lst xs)) (hj:atI xs j=some v):Gv (tOp (d8 K) te tf) σ H v:=fun Q q=>h _ (h1 _ ⟨p,_,_,_,rfl,rfl,SqL.of hp,hj,q⟩)
end
theorem sal {ta:TA} {g:TG} {u:TS} {D:Ends} {σ:St} {H:Hp} {vs:List V} (hs:vs.length<=1000) (h:Ga ta σ H vs) (k:∀ p,H p=none->g (.ref p) σ (upd H p (.lst vs)) (u D)):xf (Oq (Oo ta) g) u D σ H:=h _ ⟨small hs,fun p hp=>k p hp⟩
theorem sac {ta:TA} {g:TG} {u:TS} {D:Ends} {σ:St} {H:Hp} {i:Nat} {a:Addr} {xs vs:List V} (hv:σ[i]? = some (some (.ref a))) (ha:H a=some (.lst xs)) (hs:vs.length<=500) (hx:xs.length<=500) (h:Ga ta σ H vs) (k:∀ p H',bc H H'->H' p=some (.lst (xs++vs))->g (.ref p) σ H' (u D)):xf (Oq (tOp PK (Ai i) (Oo ta)) g) u D σ H :=
 ⟨_,hv,h _ ⟨small (by lia),fun p hp=>⟨a,p,xs,vs,rfl,rfl,az hp _ _ _ ha,aj,RP (show _<=1000 by lia) (by decide),fun q hq=>k q _ ((az hp _).trans (az hq _)) aj⟩⟩⟩
theorem sar {K:R7} {ta:TA} {te:TE} {D:Ends} {σ:St} {H:Hp} {i:Nat} {a:Addr} {xs vs:List V} {j:Int} {v:V} (hv:σ[i]? = some (some (.ref a))) (ha:H a=some (.lst xs)) (hs:vs.length<=500) (hx:xs.length<=500) (h:Ga ta σ H vs) (h2:∀ H',bc H H'->Gv te σ H' (.int j)) (hj:atI (xs++vs) j=some v) (k:∀ H',bc H H'->D.rt v H'):Ow (tOp (d8 K) (tOp PK (Ai i) (Oo ta)) te) D σ H :=
 ⟨_,hv,h _ ⟨small (by lia),fun p hp=>⟨a,p,xs,vs,rfl,rfl,az hp _ _ _ ha,aj,RP (show _<=1000 by lia) (by decide),fun q hq=>h2 _ ((az hp _).trans (az hq _)) _ ⟨q,_,_,_,rfl,rfl,SqL.of aj,hj,k _ ((az hp _).trans (az hq _))⟩⟩⟩⟩
abbrev nq:Stmt:=top 50
theorem cJ:aV ["_law_text","_law_cell","_law_some","_law_drawn","_law_at","_law_end","_law_sign","_law_odd","_law_texts"] ["_law_text","_law_cell"] (aB nq):=⟨rfl,rfl,rfl,by decide+kernel,rfl,by decide+kernel,by decide+kernel⟩
def Im (K:R7):Sp:=fun vs H Q _=>∃ (l:List Nat) (c:Int) (k:Nat),vs=[.str (S l),.int c]/\Tb k l/\∀ l' H',Tc (2 * k+1) l'->bc H H'->Q (.str (S l')) H'
theorem xr (F:Fun K "_law_bent" "_law_bent" nq f fd) (B:Bt mg)
  (D_law_draws:Df P w K mg base "_law_draws" 1 ["_law_cell","_law_parts"] (qe K)):dB P w K mg base CX0 2 f fd ["_law_text","_law_cell"] (Im K):=by
 refine F.ok cJ (fun vs H Q E h=>?_) (fun cdv A outer s H vs Q E hr h=>?_)
 ·obtain⟨l,c,k,rfl,_⟩:=h
  rfl
 ·obtain⟨l,c,k,rfl,tb,q⟩:=h
  refine⟨_,(au (aU (i:=2) cJ.nd rfl (RJ rfl) (aL aP aC aC))
 (au (aU (i:=3) cJ.nd rfl (RJ rfl) (bF D_law_draws hr (aa (pv 1) (aa (cj (aa aq (aa aq (aa aq (aa aq (aa aq ao)))))) ao))))
 (au (aU (i:=4) cJ.nd rfl (RJ rfl) (aL di (aQ (r:=d8 K) aO (pv 3) aq (fun _ _=>rfl)) (aL bK (aG dM rfl B.len_ bW (aa (pv 0) ao)) aq)))
 (au (aU (i:=5) cJ.nd rfl (RJ rfl) (aG (uT rfl) rfl B.min_ HQ (aa (aG dM rfl B.len_ bW (aa (pv 0) ao)) (aa (aL bK (pv 4) (aQ (r:=d8 K) aO (pv 3) aq (fun _ _=>rfl))) ao))))
 (au (aU (i:=6) cJ.nd rfl (RJ rfl) (aQ (r:=K8) yN (pv 2) (aL di (aQ (r:=d8 K) aO (pv 3) aq (fun _ _=>rfl)) (aG dM rfl B.len_ bW (aa (pv 2) ao))) (fun _ _=>rfl)))
 (au (aU (i:=7) cJ.nd rfl (RJ rfl) (cj (dC aC (dC aC (dC aC (dC (aL (r:=yq) uI aC aq) (dC (aL (r:=yq) uI aC aq) (dC (aL (r:=yq) uI aC aq) (dC aC (dC aC (dC aC (dC aC (dC aC (dC aC ao))))))))))))) (hs:=Aa))
 (au (aU (i:=8) cJ.nd rfl (RJ rfl) (cj (aa (aL aP (aL aP (bI (r:=rm) dR (pv 0) cQ (bQ (pv 4))) (pv 6)) (bI (r:=rm) dR (pv 0) (bQ (pv 4)) cQ)) (aa (aL aP (aL aP (bI (r:=rm) dR (pv 0) cQ (bQ (pv 4))) (pv 6)) (bI (r:=rm) dR (pv 0) (bQ (aL bK (pv 4) aq)) cQ)) (aa (aL aP (bI (r:=rm) dR (pv 0) cQ (bQ (pv 4))) (bI (r:=rm) dR (pv 0) (bQ (aL bK (pv 4) aq)) cQ)) ao)))))
 (au (aU (i:=8) cJ.nd rfl (RJ rfl) (aL zz (pv 8) (cj (aa (aL aP (bI (r:=rm) dR (pv 0) cQ (bQ (pv 5))) (bI (r:=rm) dR (pv 0) (bQ (pv 4)) cQ)) (aa (aL aP (bI (r:=rm) dR (pv 0) cQ (bQ (pv 4))) (bI (r:=rm) dR (pv 0) (bQ (pv 5)) cQ)) (aa (aL aP (aL aP (bI (r:=rm) dR (pv 0) cQ (bQ (pv 4))) (aQ (r:=d8 K) aO (pv 7) (aQ (r:=d8 K) aO (pv 3) aq (fun _ _=>rfl)) (fun _ _=>rfl))) (bI (r:=rm) dR (pv 0) (bQ (pv 5)) cQ)) ao))))))
 (aA (aJ (aQ (r:=d8 K) aO (aL zz (pv 8) (cj (aa (aL aP (aL aP aC (pv 0)) aC) (aa (aL aP (aL aP (aL aP (aL aP aC (pv 0)) aC) (pv 0)) aC) (aa (aQ (r:=d8 K) aO (pv 7) (aQ (r:=d8 K) aO (pv 3) aq (fun _ _=>rfl)) (fun _ _=>rfl)) ao))))) (aQ (r:=d8 K) aO (pv 3) aq (fun _ _=>rfl)) (fun _ _=>rfl)))))))))))),?_⟩
  have tl:=tb.2.1
  refine⟨_,_,rfl,rfl,?_,?_⟩
  ·show (("0123456789:+*()&|?, free-never" : String):Str).length+(("~AZ\n" : String):Str).length<=sizeLine
   decide+kernel
  rw[Lq]
  refine⟨_,rfl,small (by show 5<=1000; decide),fun p1 h1=>?_⟩
  generalize eH1:upd H p1 _=H1
  obtain⟨g1,e1⟩:=aH eH1 h1
  refine⟨c,p1,[9,9973,9973,97,12],rfl,SqL.of e1,by decide,by decide,fun p2 h2=>?_⟩
  generalize eH2:upd H1 p2 _=H2
  obtain⟨g2,e2⟩:=aH eH2 h2
  have hps:∀ q∈([9,9973,9973,97,12]:List Int),0 < q:=by decide
  obtain⟨d0,k0,b0⟩:=cG (c:=nD c) (i:=0) hps rfl
  obtain⟨d1,k1,b1⟩:=cG (c:=nD c) (i:=1) hps rfl
  obtain⟨d3,k3,b3⟩:=cG (c:=nD c) (i:=3) hps rfl
  obtain⟨d4,k4,b4⟩:=cG (c:=nD c) (i:=4) hps rfl
  have a0:=aF (d9 k0)
  have a1:=aF (d9 k1)
  have a3:=aF (d9 k3)
  have a4:=aF (d9 k4)
  change _=some (HO.lst ((uO (nD c) [9,9973,9973,97,12]).map V.int)) at e2
  generalize uO (nD c) [9,9973,9973,97,12]=ds at *
  have g12:bc H H2:=g1.trans g2
  refine⟨_,rfl,p2,_,_,_,rfl,rfl,SqL.of e2,a1,_,rfl,_,rfl,dj (by lia),_,_,rfl,rfl,_,_,rfl,rfl,?_,?_⟩
  ·rw[cA]; lia
  rw[cA]
  have em:=Sy d1 (b:=(l.length:Int)+1) (by lia)
  have em2:=Sg d1 (b:=(l.length:Int)+1) (by lia)
  obtain⟨at',eat⟩:∃ n:Nat,d1 % ((l.length:Int)+1)=(n:Int):=⟨(d1 % ((l.length:Int)+1)).toNat,by lia⟩
  show pI 4 (.int (d1 % ((l.length:Int)+1))) _ _ _
  rw[eat] at em em2 ⊢
  have hat:at'<=l.length:=by lia
  refine⟨_,rfl,_,rfl,dj (by lia),_,rfl,_,rfl,p2,_,_,_,rfl,rfl,SqL.of e2,a4,_,_,rfl,rfl,_,_,rfl,?_⟩
  rw[cA]
  obtain⟨en,een,hen⟩:∃ n:Nat,(if (at':Int)+d4 < (l.length:Int) then (at':Int)+d4 else (l.length:Int))=(n:Int)/\n<=l.length:=by
   by_cases z:(at':Int)+d4 < (l.length:Int)
   ·exact⟨((at':Int)+d4).toNat,by rw[if_pos z]; lia,by lia⟩
   ·exact⟨l.length,by rw[if_neg z],Rh _⟩
  show pI 5 (.int (if (at':Int)+d4 < (l.length:Int) then (at':Int)+d4 else (l.length:Int))) _ _ _
  rw[een]
  obtain⟨i3,ei3,hi3⟩:∃ n:Nat,d3 % (34:Int)=(n:Int)/\n < 34:=⟨(d3 % 34).toNat,by lia,by lia⟩
  obtain⟨sg,hsg⟩:∃ x,xV[i3]? = some x:=⟨_,Rn hi3⟩
  have hs:=FZ sg (RL hsg)
  refine⟨_,rfl,_,rfl,p2,_,_,_,rfl,rfl,SqL.of e2,a3,_,rfl,_,rfl,dj (by decide),_,_,rfl,rfl,?_,S xV,i3,sg,rfl,?_,dj (by decide),iI (xs:=xV) hsg,?_⟩
  ·show (0:Int) < ((S xV).length:Int)
   rw[cA]; decide
  ·show V.int (d3 % ((S xV).length:Int))=_
   rw[cA]
   exact congrArg V.int ei3
  refine⟨_,9,rfl,rfl,rfl,by decide,by decide,_,10,rfl,rfl,rfl,by decide,by decide,_,5000,rfl,rfl,rfl,by decide,by decide,small (by show 12<=1000; decide),fun p3 h3=>?_⟩
  generalize eH3:upd H2 p3 _=H3
  obtain⟨g3,e3⟩:=aH eH3 h3
  rw[NZ] at e3
  obtain⟨i4,ei4,hi4⟩:∃ n:Nat,d4=(n:Int)/\n < 12:=⟨d4.toNat,by lia,by lia⟩
  obtain⟨od,hod,gd⟩:=M6 i4 hi4
  generalize GF=ol at e3 hod
  rw[ei4] at a4
  have gt:∀ n,Tb k (l.take n):=fun n=>tb.take n
  have gd':∀ n,Tb k (l.drop n):=fun n=>tb.drop n
  have lt:∀ n,(l.take n).length<=9000:=fun n=>(gt n).2.1
  have ld:∀ n,(l.drop n).length<=9000:=fun n=>(gd' n).2.1
  have lo:=gd.2.1
  have s1:(S [sg]:Str)={ cps:=#[sg] }:=rfl
  rw[← s1]
  have L1:∀ a b m:List Nat,a.length<=9000->b.length<=9000->m.length<=9000->(a++m).length+b.length<=1000000/\a.length+m.length<=1000000:=fun a b m h1 h2 h3=>by rw[Rf]; lia
  have lsg:[sg].length<=9000:=by show 1<=9000; lia
  have hat1:=at'
  show xf _ _ _ _ _
  refine sal (by show 3<=1000; decide) (iD (fX (fX (zN (bL rfl) (bL rfl) tl hat) (bL rfl) (L1 _ _ _ (lt at') (ld at') lsg).2) (mL (bL rfl) (bL rfl) tl) (L1 _ _ _ (lt at') (ld at') lsg).1)
   (iD (fX (fX (zN (bL rfl) (bL rfl) tl hat) (bL rfl) (L1 _ _ _ (lt at') (ld (at'+1)) lsg).2) (mL (bL rfl) (Ii (bL rfl)) tl) (L1 _ _ _ (lt at') (ld (at'+1)) lsg).1)
   (iD (fX (zN (bL rfl) (bL rfl) tl hat) (mL (bL rfl) (Ii (bL rfl)) tl) (L1 _ [] _ (lt at') (by simp) (ld (at'+1))).2) DQ))) (fun p4 h4=>?_)
  generalize eH4:upd H3 p4 _=H4
  obtain⟨g4,e4⟩:=aH eH4 h4
  have e24:=g4 _ _ (g3 _ _ e2)
  have e34:=g4 _ _ e3
  have a4d:atI ((ol.map S).map V.str) (i4:Int)=some (.str (S od)):=aF (k:=i4) (yM hod)
  show xf _ _ _ _ _
  refine sac rfl e4 (by show 3<=500; decide) (by show 3<=500; decide) (iD (fX (zN (bL rfl) (bL rfl) tl hen) (mL (bL rfl) (bL rfl) tl) (L1 _ [] _ (lt en) (by simp) (ld at')).2)
   (iD (fX (zN (bL rfl) (bL rfl) tl hat) (mL (bL rfl) (bL rfl) tl) (L1 _ [] _ (lt at') (by simp) (ld en)).2)
   (iD (fX (fX (zN (bL rfl) (bL rfl) tl hat) (Dt (bL rfl) (Dt (bL rfl) Pj e24 a4) e34 a4d) (L1 _ [] _ (lt at') (by simp) (by lia)).2) (mL (bL rfl) (bL rfl) tl) (L1 _ _ _ (lt at') (ld en) (by lia)).1) DQ))) (fun p6 H6 g6 e6=>?_)
  have e26:=g6 _ _ e24
  have e36:=g6 _ _ e34
  have ll:∀ a:List Nat,a.length<=9000->[40].length+a.length<=1000000:=fun a h=>by rw[Rk]; lia
  obtain⟨i0,ei0,hi0⟩:∃ n:Nat,d0=(n:Int)/\n < 9:=⟨d0.toNat,by lia,by lia⟩
  rw[ei0] at a0
  show Ow _ _ _ _
  have lll:∀ a b:List Nat,a.length<=30000->b.length<=30000->a.length+b.length<=1000000:=fun a b h1 h2=>by lia
  have b1:([40]++l).length<=30000:=by rw[Rf,Rk]; lia
  have b2:([40]++l++[38]).length<=30000:=by rw[Rf,Rf,Rk,Rk]; lia
  have b3:([40]++l++[38]++l).length<=30000:=by rw[Rf,Rf,Rf,Rk,Rk]; lia
  have o1:∀ x:Nat,[x].length<=30000:=fun x=>by show 1<=30000; lia
  have all:∀ n,n < 9->∃ t,([V.str (S (l.take at'++[sg]++l.drop at')),V.str (S (l.take at'++[sg]++l.drop (at'+1))),V.str (S (l.take at'++l.drop (at'+1)))]++[V.str (S (l.take en++l.drop at')),V.str (S (l.take at'++l.drop en)),V.str (S (l.take at'++od++l.drop en))]++[V.str (S ([40]++l++[41])),V.str (S ([40]++l++[38]++l++[41])),V.str (S od)])[n]? = some (.str (S t))/\Tc (2 * k+1) t:=fun n hn=>by
   obtain (rfl | rfl | rfl | rfl | rfl | rfl | rfl | rfl | rfl):n=0∨n=1∨n=2∨n=3∨n=4∨n=5∨n=6∨n=7∨n=8:=by lia
   ·exact⟨_,rfl,(gt at').three (gd' at') (yx hs)⟩
   ·exact⟨_,rfl,(gt at').three (gd' (at'+1)) (yx hs)⟩
   ·exact⟨_,rfl,(gt at').two (gd' (at'+1))⟩
   ·exact⟨_,rfl,(gt en).two (gd' at')⟩
   ·exact⟨_,rfl,(gt at').two (gd' en)⟩
   ·exact⟨_,rfl,(gt at').three (gd' en) gd⟩
   ·exact⟨_,rfl,tb.in_⟩
   ·exact⟨_,rfl,tb.in2⟩
   ·exact⟨_,rfl,gd.1,by lia,gd.2.2.mono (by lia)⟩
  obtain⟨t,et,tt⟩:=all i0 hi0
  exact sar rfl e6 (by show 3<=500; decide) (by show 6<=500; decide) (iD (fX (fX (Mt oJ) (bL rfl) (lll _ _ (o1 40) (by lia))) (Mt rN) (lll _ _ b1 (o1 41)))
   (iD (fX (fX (fX (fX (Mt oJ) (bL rfl) (lll _ _ (o1 40) (by lia))) (Mt BX) (lll _ _ b1 (o1 38))) (bL rfl) (lll _ _ b2 (by lia))) (Mt rN) (lll _ _ b3 (o1 41)))
   (iD (Dt (bL rfl) (Dt (bL rfl) Pj e26 a4) e36 a4d) DQ))) (fun H7 s7=>Dt (bL rfl) Pj (s7 _ _ e26) a0) (aF (k:=i0) et) (fun H7 s7=>q t H7 tt (g12.trans (g3.trans (g4.trans (g6.trans s7)))))
theorem Ie {c:List Nat} (h:c.length<=12):PR 11 (txC c):=PR.few (by
 unfold txC
 rw[tY,Q8]
 ·lia
 ·intro p hp z
  obtain⟨i,_,rfl⟩:=List.mem_map.mp hp
  have:=vz i 43 z
  lia)
theorem Af (n:Nat):PR 11 (dg n):=PR.few (by
 rw[List.count_eq_zero.mpr (fun z=>by have:=vz n 43 z; lia)]
 lia)
theorem Ng {q:List Nat} (h:PR 11 q):PR 11 (40::(q++[41])):=PR.mid (a:=[]) (by decide) (PR.few (by simp)) (PR.mid (by decide) h (PR.few (by simp)))
mutual
theorem Jx {n:Nat} {H:Hp} (hn:n<=12):∀ {v:V} {t:Tm},jg n H v t->PR 11 (txT t)
 | _,_,.free _=>by rw[txT]; exact PR.few (by decide)
 | _,_,.never _=>by rw[txT]; exact PR.few (by decide)
 | _,_,.gives _ _ _ _=>by rw[txT]; exact PR.mid (by decide) (Af _) (Af _)
 | _,_,.sum _ _ hc hp _ _ _ _=>by
  rw[txT]
  exact PR.mid (by decide) (Ie (RP (mG hp hc) hn)) (Af _)
 | _,_,.crowd _ _ hc hp _ _ _ _ _ _=>by
  rw[txT]
  exact PR.mid (by decide) (Af _) (PR.mid (by decide) (Ie (RP (mG hp hc) hn)) (Af _))
 | _,_,.all _ _ _ _ rl=>by
  rw[txT]
  exact Ng (PR.jn (by decide) (Eb hn rl))
 | _,_,.any _ _ _ _ rl=>by
  rw[txT]
  exact Ng (PR.jn (by decide) (Eb hn rl))
theorem Eb {n:Nat} {H:Hp} (hn:n<=12):∀ {vs:List V} {ts:List Tm},cM n H vs ts->∀ p∈txL ts,PR 11 p
 | _,_,.nil=>fun p hp=>by rw[txL] at hp; cases hp
 | _,_,.cons h r=>fun p hp=>by
  rw[txL] at hp
  rcases List.mem_cons.mp hp with rfl | hp
  ·exact Jx hn h
  ·exact Eb hn r p hp
end
theorem Np {n:Nat} {H:Hp} (hn:n<=12) {vs:List V} {p:Pl} (r:dN n H vs p):PR 11 (txP p):=PR.jn (by decide) fun q hq=>by
 obtain⟨x,hx,rfl⟩:=List.mem_map.mp hq
 obtain⟨v,rv⟩:=r.mem x hx
 exact PR.mid (by decide) (Af _) (Jx hn rv)
theorem JV (p:Pl):∀ x∈txP p,x < 128:=wj (P:=fun x=>x < 128) (by decide) fun q hq x hx=>by
 obtain⟨y,_,rfl⟩:=List.mem_map.mp hq
 exact pP (P:=fun x=>x < 128) (fun x hx=>by have:=vz _ x hx; lia) (by decide) (fun x hx=>(BV _ x hx).1) x hx
abbrev fM:Stmt:=top 36
theorem qJ:aV ["_law_asked","e"] ["_law_asked"] (aB fM):=⟨rfl,rfl,rfl,by decide+kernel,rfl,by decide+kernel,by decide+kernel⟩
def twWord (K:R7) (G:Addr):Addr->(Hp->VK->XK->Prop)->VK->Hp->Prop:=fun _ sp Q H=>sp H (fun v H2=>[V.str "told",v].length<=sizeLine/\∀ a,H2 a=none->Q (.ref a) (upd H2 a (.tup [.str "told",v]))) (XW K G "word" Q)
theorem JQ {fW G:Addr} {k:Nat} (m_BoonError:mg "BoonError" = some (.ref G)) (f:Addr) (cdv:Value) (A:Sh) (outer:List WQ) (s:Ra) (H:Hp) (Q:VK) (j:Nat) (sp:Hp->VK->XK->Prop) (_:k=j+1)
  (hr:gB k (A.deeper (PyProof.Rows.envOfC "_law_word" (aB fM) s.heap.objs.size fW cdv))) (L:Lx (XL P w) P w K mg base k s H (frs outer) f sp) (h:twWord K G f sp Q H) :
  ∃ t,PSs (xm CX0 P w K mg base ["_law_asked","e"] "_law_word" (aB fM) fW cdv A outer s H E0) (bO fM) t/\t { nx:=fun _ H'=>Q .non H',rt:=Q } (start ["_law_asked","e"] [.ref f]) H:=by
 refine⟨_,aA (N5 1 ⟨rfl,rfl⟩ rfl m_BoonError qJ.nd rfl rfl fun pn E W hx=>aA (aJ (bh (aa aC (aa (Lb L rfl hr hx (pv 0)) ao))))),?_⟩
 exact⟨_,rfl,rfl,h⟩
theorem xR {K:R7} {C G:Addr} {w:Str} {H:Hp} {Q:VK} (R:XRd K C G "word") (q:∀ (a:Addr) (H':Hp),bc H H'->H' a=some (.tup [.str w])->Q (.ref a) H'):thrown C w H (XW K G "word" Q):=by
 intro dx H1 s ed
 refine⟨C,dx,_,_,rfl,rfl,R,ed,rfl,fun x u a hx ha=>q a _ ?_ aj⟩
 exact s.trans ((az hx _).trans (az ha _))
section
variable {K:R7} {G C T:Addr} {q w:Str} {cap:List Nat} {te:XK->TE} {σ:St} {H:Hp} {Q:VK}
theorem zP (hT:TabOk H T q) (R:XRd K C G "word") (h:∀ H1,fL H H1->TabOk H1 T q->∀ (Q2:VK) (E2:XK),thrown C w H1 E2->te E2 (Kf cap σ) H1 Q2)
  (k:∀ a H',fL H H'->TabOk H' T q->H' a=some (.tup [.str w])->Q (.ref a) H'):OD T q cap (twWord K G) te σ H Q :=
 ⟨hT,fun _ H1 sm tb=>h H1 sm tb _ _ (xR R fun a H' s e=>k a H' (sm.trans s.t) (tb.same s) e)⟩
theorem Gm {P:V->Hp->Prop} (hT:TabOk H T q) (h:∀ H1,fL H H1->TabOk H1 T q->∀ (Q2:VK) (E2:XK),(∀ v H2,P v H2->Q2 v H2)->te E2 (Kf cap σ) H1 Q2)
  (k:∀ a v H2 H',P v H2->bc H2 H'->H' a=some (.tup [.str "told",v])->Q (.ref a) H'):OD T q cap (twWord K G) te σ H Q :=
 ⟨hT,fun _ H1 sm tb=>h H1 sm tb _ _ fun v H2 p=>⟨small (by show 2<=1000; decide),fun a ha=>k a v H2 _ p (az ha _) aj⟩⟩
end
theorem zr {H:Hp} {a:Addr} {w:Str} (h:H a=some (.tup [.str w])):Rep H (.ref a) (.tup [.str w]):=.tup h (by show 1<=100000; decide) (.cons (.str _) .nil)
theorem zE {H:Hp} {a:Addr} {v:V} {d:Dm} (h:H a=some (.tup [.str "told",v])) (r:Rep H v d):Rep H (.ref a) (.tup [.str "told",d]):=.tup h (by show 2<=100000; decide) (.cons (.str _) (.cons r .nil))
theorem Hl {w:Str} {n:Nat} (h:1 < n):(Dm.tup [.str w]).dep < n:=by simpa [Dm.dep,jb] using h
theorem Nq {X:Cx} {x:Str} {pos:Wi} {f:Addr} (hm:X.mg x=some (.ref f)) (hg:Gl X x:=by rfl) (hd:(x == ("__debug__" : Str))=false:=by decide):PE X (.Name x pos) (tC (.ref f)):=xW (v:=.ref f) hg hm rfl hd
abbrev KZ:Stmt:=top 51
theorem gZ:aV ["_law_script","_law_cell","_law_drawn","_law_n","_law_text","_law_k","_law_turn","_law_ask","_law_found","_law_want"] ["_law_script"] (aB KZ):=⟨rfl,rfl,rfl,by decide+kernel,rfl,by decide+kernel,by decide+kernel⟩
def Kp:Str:=("law" : Str)++".<locals>."++"<lambda>"
theorem stT {H H1:Hp} {a:Addr} {xs:List V} (s:fL H H1) (h:H a=some (.tup xs)):H1 a=some (.tup xs):=s a (.tup xs) (fun _ z=>nomatch z) h
theorem stL {H H1:Hp} {a:Addr} {xs:List V} (s:fL H H1) (h:H a=some (.lst xs)):H1 a=some (.lst xs):=s a (.lst xs) (fun _ z=>nomatch z) h
mutual
theorem O9 {H H':Hp} (e:fL H H'):∀ {v:V} {d:Dm},Rep H v d->Rep H' v d
 | _,_,.non=>.non
 | _,_,.bl b=>.bl b
 | _,_,.int i=>.int i
 | _,_,.str x=>.str x
 | _,_,.tup h l r=>.tup (stT e h) l (J3 e r)
 | _,_,.lst h l r=>.lst (stL e h) l (J3 e r)
theorem J3 {H H':Hp} (e:fL H H'):∀ {vs:List V} {ds:List Dm},eN H vs ds->eN H' vs ds
 | _,_,.nil=>.nil
 | _,_,.cons h r=>.cons (O9 e h) (J3 e r)
end
def VO (H:Hp) (v:V) (o:Option Dm):Prop:=(o=none/\v = .non)∨∃ d,o=some d/\Rep H v d/\(∃ a,v = .ref a)/\d.dep < 13
theorem VO.s {H H':Hp} {v:V} {o:Option Dm} (e:fL H H') (h:VO H v o):VO H' v o:=by
 rcases h with h | ⟨d,h1,h2,h3,h4⟩
 ·exact .inl h
 ·exact .inr ⟨d,h1,O9 e h2,h3,h4⟩
theorem yU {l:List Nat} {x:Dm} (h:Ce l=some x):(∃ ds,x = .tup ds)/\x.dep<=12:=by
 unfold Ce at h
 obtain⟨rs,h1,h2⟩:=Option.bind_eq_some_iff.mp h
 split at h2
 ·cases h2
  refine⟨⟨_,rfl⟩,?_⟩
  unfold plD
  rw[Dm.dep]
  have:jb (rs.map rgD)<=11:=pW fun d hd=>by
   obtain⟨r,hr,rfl⟩:=List.mem_map.mp hd
   obtain⟨p,_,ep⟩:=fc h1 r hr
   unfold Bx at ep
   split at ep
   ·cases ep
   obtain⟨n,_,ep⟩:=Option.bind_eq_some_iff.mp ep
   obtain⟨d,hd4,ep⟩:=Option.bind_eq_some_iff.mp ep
   split at ep
   ·cases ep
    have:=(kE 4 hd4).2
    unfold rgD
    simp only[Dm.dep,jb,dI]
    lia
   ·cases ep
  lia
 ·cases h2
theorem DW {H:Hp} {v:V} {ds:List Dm} (h:Rep H v (.tup ds)):∃ a,v = .ref a:=by
 cases h with
 | tup _ _ _=>exact⟨_,rfl⟩
def Asks (f1 f2:Addr) (s1 s2:Sp) (C fi:Addr) (l:List Nat) (o:Option Dm):Prop:=∀ (H:Hp) (Q:VK) (E:XK),(∀ d,o=some d->∀ v H',bc H H'->Rep H' v d->Q v H')->(o=none->thrown C "bad text" H E)->(V.ref fi = .ref f1/\s1 [.str (S l)] H Q E)∨(V.ref fi = .ref f2/\s2 [.str (S l)] H Q E)
def Gy (K:R7) (T:Addr):Sp:=fun vs H Q _=>∃ (a:Addr) (ns:List Int),vs=[.ref a]/\SqL K H a (ns.map V.int)/\ns.length<=63/\TabOk H T Kp/\∀ H',Q (.bl true) H'
theorem Qk (l:List Nat):fK (S l) none (some 9000)=S (l.take 9000):=by
 by_cases h:9000<=l.length
 ·exact zF h
 ·have e:RB none (some 9000) 1 (S l).length=RB none (some (l.length:Int)) 1 (S l).length:=by
   rw[cA]
   unfold RB
   dsimp only
   congr 1
   rw[if_neg (show ¬ (9000:Int) < 0 by lia),if_neg (show ¬ ((l.length:Nat):Int) < 0 by lia)]
   simp only[show (1:Int) > 0 from by decide,if_true]
   lia
  have e2:fK (S l) none (some 9000)=fK (S l) none (some (l.length:Int)):=by
   unfold fK
   rw[e]
  rw[e2,zF (Rh _),Vd (Rh _),Vd (by lia)]
theorem Ob {f c T fW G C:Addr} {fd fdW:Tp} (F:Ol K "law" "law" KZ f fd c) (B:Bt mg) (HP:Aw mg c T base) (m_BoonError:mg "BoonError" = some (.ref G)) (R:XRd K C G "word")
  (F_law_word:Fun K "_law_word" "_law_word" fM fW fdW) (m_law_word:mg "_law_word" = some (.ref fW))
  (D_law_draws:Df P w K mg base "_law_draws" 1 ["_law_cell","_law_parts"] (qe K)) (D_law_under:Df P w K mg base "_law_under" 1 ["_law_cell","_law_k"] uK) (D_law_same:Df P w K mg base "_law_same" 14 ["_law_found","_law_due"] (sY 14))
  (D_law_term:Df P w K mg base "_law_term" 5 ["_law_cell","_law_n","_law_deep","_law_most"] (pH 4)) (D_law_pledge:Df P w K mg base "_law_pledge" 6 ["_law_cell","_law_n","_law_one","_law_deep","_law_most"] yG) (D_law_term_text:Df P w K mg base "_law_term_text" 4 ["_law_term_here"] (vA 4)) (D_law_pledge_text:Df P w K mg base "_law_pledge_text" 5 ["_law_pledge_here"] Qp)
  (D_law_bent:Df P w K mg base "_law_bent" 2 ["_law_text","_law_cell"] (Im K)) (D_law_read:Df P w K mg base "_law_read" 6 ["_law_text","_law_deep"] (Hw 5)) (D_law_read_rungs:Df P w K mg base "_law_read_rungs" 7 ["_law_text"] (Ia Ty Ce Rep))
  (D_read_term:Dx P w K mg base "read_term" 13 ["text"] (rJ C rdT Rep)) (D_read_pledge:Dx P w K mg base "read_pledge" 15 ["text"] (rJ C Hj Rep)):dB P w K mg base CX0 19 f fd ["_law_script"] (Gy K T):=by
 obtain⟨f1,fd1,F1,M1_read_term,K1,b1⟩:=D_read_term.ex
 obtain⟨f2,fd2,F2,M1_read_pledge,K2,b2⟩:=D_read_pledge.ex
 refine F.ok gZ (fun vs H Q E h=>?_) (fun A outer s H vs Q E hr h=>?_)
 ·obtain⟨a,ns,rfl,_⟩:=h
  rfl
 ·obtain⟨a,ns0,rfl,hS,lN,hT,q⟩:=h
  refine⟨_,(au (aU (i:=0) gZ.nd rfl (RJ rfl) (bI (r:=Qo K) JL (pv 0) cQ (bQ aq)))
 (au (gC TX rfl (fD (aL zz (pv 0) (cj (aa aq (aa aq ao))))) (aN (i:=1) gZ.nd rfl (RJ rfl)) (au (aU (i:=2) gZ.nd rfl (RJ rfl) (bF D_law_draws hr (aa (aL bK (pv 1) aq) (aa (cj (aa aq (aa aq (aa aq (aa aq ao))))) ao))))
 (au (aU (i:=3) gZ.nd rfl (RJ rfl) (aL gQ aq (aQ (r:=d8 K) aO (pv 2) aq (fun _ _=>rfl))))
 (au (aU (i:=4) gZ.nd rfl (Zc rfl) (bF D_law_term_text hr (aa (bF D_law_term hr (aa (pv 1) (aa (pv 3) (aa aq (aa aq ao))))) ao)))
 (au (bu (aD cD (aQ (r:=d8 K) aO (pv 2) aq (fun _ _=>rfl)) aq (aK _)) (aA (aU (i:=4) gZ.nd rfl (Zc rfl) (bF D_law_pledge_text hr (aa (bF D_law_pledge hr (aa (bF D_law_under hr (aa (pv 1) (aa aq ao))) (aa (pv 3) (aa (aL di (aQ (r:=d8 K) aO (pv 2) aq (fun _ _=>rfl)) (pv 3)) (aa aq (aa aq ao)))))) ao)))) aM)
 (au (gC TX rfl (eU rfl B.range_ (aa (aL bK aq (aQ (r:=d8 K) aO (pv 2) aq (fun _ _=>rfl))) ao)) (aN (i:=5) gZ.nd rfl (RJ rfl)) (aA (aU (i:=4) gZ.nd rfl (Zc rfl) (bF D_law_bent hr (aa (bI (r:=rm) dR (pv 4) cQ (bQ aq)) (aa (aQ (r:=d8 K) aO (cj (aa (aL bK (pv 1) aq) (aa (bF D_law_under hr (aa (pv 1) (aa aq ao))) ao))) (pv 5) (fun _ _=>rfl)) ao))))))
 (aA (gC TX rfl (eU rfl B.range_ (aa aq ao)) (aN (i:=6) gZ.nd rfl (RJ rfl)) (aA (gC TX rfl (iZ (bh (aa (bh (aa (Nq M1_read_term) (aa (bF D_law_read hr (aa (pv 4) (aa aq ao))) ao))) (aa (bh (aa (Nq M1_read_pledge) (aa (bF D_law_read_rungs hr (aa (pv 4) ao)) ao))) ao)))) (f9 (K:=K) 2 rfl rfl (bz (aN (i:=7) gZ.nd rfl (Zc rfl)) (bz (aN (i:=8) gZ.nd rfl (RJ rfl)) fY))) (au (aU (i:=9) gZ.nd rfl (RJ rfl) (gR (sE (pR (pv 8))) (bh (aa aC ao)) (bh (aa aC (aa (pv 8) ao)))))
 (aA (bu (dH (dq (bF D_law_same hr (aa (Nh (k:=17) (NL:=["_law_ask","_law_text"]) (cap:=[7,4]) F_law_word qJ hr rfl m_law_word (Mz (bU rfl rfl (by kernel_rfl))) rfl HP.code HP.blt (fun f cd cl A outer s H E j hj hr=>(Kz F1 F2 K1 K2 b1 b2 hr (by lia) (by lia) (Aj) (pv 0) (aa (pv 1) ao))) (JQ m_BoonError)) (aa (pv 9) ao))))) (aA (aJ lr)) aM)))))))))))))
 (aA (aJ lr)))),?_⟩
  refine jM (fun σ H2=>∃ (p1:Addr) (ss:List Int),σ=[some (.ref p1),none,none,none,none,none,none,none,none,none]/\H2 p1=some (.lst (ss.map V.int))/\ss.length<=63/\TabOk H2 T Kp) ?r1 ?s1
  case s1 =>
   intro N Rr
   refine⟨_,rfl,_,rfl,a,_,rfl,hS,fun p1 h1=>?_⟩
   obtain⟨ss,es,ls⟩:=Gq ns0 none (some 63)
   refine Rr _ _ ⟨p1,ss,rfl,?_,by lia,hT.same (az h1 _)⟩
   rw[aj,es]
  case r1 =>
  rintro σ H1 ⟨p1,ss,rfl,e1,ls,hT1⟩
  refine⟨_,rfl,small (by show 2<=1000; decide),fun p2 h2=>?_⟩
  generalize eH2:upd H1 p2 _=H2
  obtain⟨g2,e2⟩:=aH eH2 h2
  refine⟨p1,p2,_,_,rfl,rfl,g2 _ _ e1,e2,small (by rw[Q8]; show ss.length+2<=1000; lia),fun p3 h3=>?_⟩
  rw[show ss.map V.int++[V.int 0,V.int 1]=(ss++[0,1]).map V.int by rw[Rx]; rfl]
  generalize eH3:upd H2 p3 _=H3
  obtain⟨g3,e3⟩:=aH eH3 h3
  have hT3:=hT1.same (g2.trans g3)
  refine⟨p3,rfl,⟨_,SqL.of e3⟩,o5 (K:=K) (a:=p3) (xs:=(ss++[0,1]).map V.int) (fun i σ H4=>(∃ v1 v2 v3 v4 v5 v6 v7 v8 v9:Option V,σ=[some (.ref p1),v1,v2,v3,v4,v5,v6,v7,v8,v9])/\fL H3 H4/\TabOk H4 T Kp) ⟨⟨_,_,_,_,_,_,_,_,_,rfl⟩,fL.refl _,hT3⟩
   (fun i σ H4 _ h=>SqL.of (stL h.2.1 e3)) ?_ ?_⟩
  ·rintro i x σ H4 hx ⟨⟨v1,v2,v3,v4,v5,v6,v7,v8,v9,rfl⟩,s4,hT4⟩
   obtain⟨z,hz,rfl⟩:=int_at hx
   refine gN ?_
   refine jM (fun σ H5=>∃ (pd:Addr) (x0 x1 x2 x3:Int),σ=[some (.ref p1),some (.int z),some (.ref pd),v3,v4,v5,v6,v7,v8,v9]/\bc H4 H5/\H5 pd=some (.lst [.int x0,.int x1,.int x2,.int x3])/\0<=x0/\x0 < 12/\0<=x3/\x3 < 2) ?q1 ?t1
   case t1 =>
    intro N Rr
    refine⟨_,rfl,_,_,rfl,rfl,small (by show 4<=1000; decide),fun pl hl=>?_⟩
    generalize eH5:upd H4 pl _=H5
    obtain⟨g5,e5⟩:=aH eH5 hl
    refine⟨z+1,pl,[12,60,3,2],rfl,SqL.of e5,by decide,by decide,fun pd hd=>?_⟩
    exact Rr _ _ ⟨pd,_,_,_,_,rfl,g5.trans (az hd _),aj,Sy _ (by decide),Sg _ (by decide),Sy _ (by decide),Sg _ (by decide)⟩
   case q1 =>
   rintro σ H5 ⟨pd,x0,x1,x2,x3,rfl,s5,ed,b0,b1',c0,c1⟩
   obtain⟨n,en⟩:∃ n:Nat,12 - x0=(n:Int):=⟨(12 - x0).toNat,by lia⟩
   refine jM (fun σ H6=>H6=H5/\σ=[some (.ref p1),some (.int z),some (.ref pd),some (.int (n:Int)),v4,v5,v6,v7,v8,v9]) ?q2 ?t2
   case t2 =>
    intro N Rr
    refine⟨_,rfl,pd,_,_,_,rfl,rfl,SqL.of ed,aF (k:=0) rfl,_,_,rfl,rfl,?_⟩
    refine Rr _ _ ⟨rfl,?_⟩
    show[some (V.ref p1),some (.int z),some (.ref pd),some (.int (12 - x0)),v4,v5,v6,v7,v8,v9]=_
    rw[en]
   case q2 =>
   rintro σ H6 ⟨rfl,rfl⟩
   have n1:1<=n:=by lia
   have n12:n<=12:=by lia
   refine jM (fun σ H7=>∃ l:List Nat,σ=[some (.ref p1),some (.int z),some (.ref pd),some (.int (n:Int)),some (.str (S l)),v5,v6,v7,v8,v9]/\bc H6 H7/\(∀ x∈l,x < 128)/\l.length<=300000/\PR 11 l) ?q3 ?t3
   case t3 =>
    intro N Rr
    refine⟨_,rfl,_,rfl,z,n,4,9,rfl,n1,n12,by decide,by decide,by decide,by decide,fun v t H7 s7 rt hd=>⟨v,n,t,rfl,rt,by lia,n12,by decide,fun H8 s8=>Rr _ _ ⟨txT t,rfl,s7.trans s8,fun x hx=>(BV t x hx).1,?_,Jx n12 rt⟩⟩⟩
    have:=pA rt (d:=4) (by lia) (Rh _)
    lia
   case q3 =>
   rintro σ H7 ⟨l0,rfl,s7,la,ll,lp⟩
   refine jM (fun σ H8=>∃ l:List Nat,σ=[some (.ref p1),some (.int z),some (.ref pd),some (.int (n:Int)),some (.str (S l)),v5,v6,v7,v8,v9]/\bc H7 H8/\(∀ x∈l,x < 128)/\l.length<=300000/\PR 11 l) ?q4 ?t4
   case t4 =>
    intro N Rr
    refine⟨_,rfl,pd,_,_,_,rfl,rfl,SqL.of (s7 _ _ ed),aF (k:=2) rfl,rfl,_,rfl,jG (fun _=>?_) (fun _=>?_)⟩
    ·have m0:0<=x1 % (n:Int):=Sy _ (by lia)
     have m1:x1 % (n:Int) < (n:Int):=Sg _ (by lia)
     obtain⟨one,eo⟩:∃ m:Nat,x1 % (n:Int)=(m:Int):=⟨(x1 % (n:Int)).toNat,by lia⟩
     refine⟨_,rfl,z,1,rfl,by decide,_,rfl,_,rfl,pd,_,_,_,rfl,rfl,SqL.of (s7 _ _ ed),aF (k:=1) rfl,_,rfl,_,_,rfl,rfl,(by show (0:Int) < (n:Int); lia),?_⟩
     refine⟨Jr z 1,n,one,3,9,(by show[V.int (Jr z 1),V.int (n:Int),V.int (x1 % (n:Int)),V.int 3,V.int 9]=_; rw[eo]; rfl),n1,n12,by lia,by decide,by decide,by decide,by decide,fun a p H8 s8 rp hp=>⟨a,p,n,rfl,rp,n12,fun H9 s9=>?_⟩⟩
     obtain⟨ok,us,ha,rr⟩:=rp
     refine Rr _ _ ⟨txP p,rfl,s8.trans s9,JV p,?_,Np n12 rr⟩
     have:=Jw ok rr
     lia
    ·exact Rr _ _ ⟨l0,rfl,bc.refl _,la,ll,lp⟩
   case q4 =>
   rintro σ H8 ⟨l1,rfl,s8,la1,ll1,lp1⟩
   obtain⟨m,em,m1,m2⟩:∃ m:Nat,1+x3=(m:Int)/\1<=m/\m<=2:=⟨(1+x3).toNat,by lia,by lia,by lia⟩
   refine jM (fun σ H9=>∃ (l:List Nat) (u5:Option V),σ=[some (.ref p1),some (.int z),some (.ref pd),some (.int (n:Int)),some (.str (S l)),u5,v6,v7,v8,v9]/\bc H8 H9/\Ty l) ?q5 ?t5
   case t5 =>
    intro N Rr
    refine⟨_,rfl,pd,_,_,_,rfl,rfl,SqL.of (s8 _ _ (s7 _ _ ed)),aF (k:=3) rfl,_,_,rfl,rfl,?_⟩
    refine⟨(m:Int),by show[V.int (1+x3)]=_; rw[em],by lia,by lia,lJ (lo:=0) (n:=((m:Int)).toNat) (fun i σ H9=>∃ (l:List Nat) (u5:Option V),σ=[some (.ref p1),some (.int z),some (.ref pd),some (.int (n:Int)),some (.str (S l)),u5,v6,v7,v8,v9]/\bc H8 H9/\(∀ x∈l,x < 128)/\l.length<=300000/\(1<=i->l.length<=30000)/\PR (12 * 2 ^ i - 1) l) ⟨l1,_,rfl,bc.refl _,la1,ll1,fun z=>absurd z (by decide),lp1⟩ ?_ ?_⟩
    ·rintro j σ H9 hj ⟨l,u5,rfl,s9,ja,jl,_,jp⟩
     rw[Th] at hj
     have tb:Tb (12 * 2 ^ j - 1) (l.take 9000):=⟨fun x hx=>ja x (Vo hx),by rw[RN]; lia,jp.take 9000⟩
     refine⟨_,rfl,_,rfl,S l,rfl,dj (by lia),?_,?_⟩
     ·show (fK (S l) none (some 9000)).length<=_
      rw[Qk]
      exact dj (by have:=tb.2.1; lia)
     rw[show fK (S l) none (some 9000)=_ from Qk l]
     refine⟨_,rfl,_,_,rfl,rfl,_,rfl,z,4,rfl,by decide,small (by show 2<=1000; decide),fun pL hL=>?_⟩
     have fin:∀ (l':List Nat) (H':Hp),Tc (2 * (12 * 2 ^ j - 1)+1) l'->bc H9 H'->∃ (l2:List Nat) (u5:Option V),[some (V.ref p1),some (.int z),some (.ref pd),some (.int (n:Int)),some (.str (S l')),some (V.int (0+(j:Int))),v6,v7,v8,v9]=[some (.ref p1),some (.int z),some (.ref pd),some (.int (n:Int)),some (.str (S l2)),u5,v6,v7,v8,v9]/\bc H8 H'/\(∀ x∈l2,x < 128)/\l2.length<=300000/\(1<=j+1->l2.length<=30000)/\PR (12 * 2 ^ (j+1) - 1) l2:=fun l' H' tc sH=>by
      have:=Nat.pos_of_ne_zero (n:=2 ^ j) (by simp)
      exact⟨l',_,rfl,s9.trans sH,tc.1,by have:=tc.2.1; lia,fun _=>tc.2.1,tc.2.2.mono (by rw[X8]; lia)⟩
     obtain (rfl | rfl):j=0∨j=1:=by lia
     ·exact⟨_,rfl,pL,_,_,_,rfl,rfl,SqL.of aj,aF (k:=0) rfl,l.take 9000,_,_,rfl,tb,fun l' H' tc sH=>fin l' H' tc ((az hL _).trans sH)⟩
     ·exact⟨_,rfl,pL,_,_,_,rfl,rfl,SqL.of aj,aF (k:=1) rfl,l.take 9000,_,_,rfl,tb,fun l' H' tc sH=>fin l' H' tc ((az hL _).trans sH)⟩
    ·rintro σ H9 ⟨l,u5,rfl,s9,ja,jl,jl2,jp⟩
     rw[Th] at jl2 jp
     refine Rr _ _ ⟨l,u5,rfl,s9,⟨ja,by have:=jl2 m1; lia⟩,jp.mono ?_⟩
     obtain (rfl | rfl):m=1∨m=2:=by lia
     ·decide
     ·decide
   case q5 =>
   rintro σ H9 ⟨l,u5,rfl,s9,ty⟩
   have s49:bc H4 H9:=s5.trans (s7.trans (s8.trans s9))
   refine⟨_,rfl,by decide,by decide,lJ (lo:=0) (n:=2) (fun j σ Ha=>(∃ u6 u7 u8 u9:Option V,σ=[some (.ref p1),some (.int z),some (.ref pd),some (.int (n:Int)),some (.str (S l)),u5,u6,u7,u8,u9])/\fL H9 Ha/\TabOk Ha T Kp) ⟨⟨_,_,_,_,rfl⟩,fL.refl _,hT4.same s49⟩ ?_ ?_⟩
   ·rintro j σ Ha hj ⟨⟨u6,u7,u8,u9,rfl⟩,sa,hTa⟩
    refine gN ?_
    have R1:∀ (H:Hp) (Q:VK),(∀ v H',bc H H'->VO H' v (lwR 4 l)->Q v H')->Hw 5 [.str (S l),.int 4] H Q E0:=fun H Q h=>⟨l,4,rfl,by decide,by decide,ty,fun b hb v H' s' rv=>h v H' s' (.inr ⟨b,hb,rv,by
     obtain⟨ds,rfl⟩:=(kE 4 hb).1
     exact DW rv,by have:=(kE 4 hb).2; lia⟩),fun hn H' s'=>h _ H' s' (.inl ⟨hn,rfl⟩)⟩
    have R2:∀ (H:Hp) (Q:VK),(∀ v H',bc H H'->VO H' v (Ce l)->Q v H')->Ia Ty Ce Rep [.str (S l)] H Q E0:=fun H Q h=>⟨l,rfl,ty,fun b hb v H' s' rv=>h v H' s' (.inr ⟨b,hb,rv,by
     obtain⟨ds,rfl⟩:=(yU hb).1
     exact DW rv,by have:=(yU hb).2; lia⟩),fun hn H' s'=>h _ H' s' (.inl ⟨hn,rfl⟩)⟩
    have A1:Asks f1 f2 (rJ C rdT Rep) (rJ C Hj Rep) C f1 l (lwR 4 l):=fun H Q E h1 h2=>by
     have e4:rdT l=lwR 4 l:=(jL 4 l (by decide)).symm
     exact .inl ⟨rfl,l,rfl,ty.1,fun b hb=>h1 b (by rw[← e4]; exact hb),fun hn=>h2 (by rw[← e4]; exact hn)⟩
    have A2:Asks f1 f2 (rJ C rdT Rep) (rJ C Hj Rep) C f2 l (Ce l):=fun H Q E h1 h2=>by
     have e4:Hj l=Ce l:=(vd l).symm
     exact .inr ⟨rfl,l,rfl,ty.1,fun b hb=>h1 b (by rw[← e4]; exact hb),fun hn=>h2 (by rw[← e4]; exact hn)⟩
    refine⟨_,rfl,R1 _ _ fun va Hb sb vo1=>⟨small (by show 2<=1000; decide),fun q1 h1=>?_⟩⟩
    generalize eHc:upd Hb q1 _=Hc
    obtain⟨gc,ec⟩:=aH eHc h1
    refine⟨_,rfl,R2 _ _ fun vb Hd sd vo2=>⟨small (by show 2<=1000; decide),fun q2 h2=>?_⟩⟩
    generalize eHe:upd Hd q2 _=He
    obtain⟨ge,ee⟩:=aH eHe h2
    refine⟨small (by show 2<=1000; decide),fun q3 h3=>?_⟩
    generalize eHf:upd He q3 _=Hf
    obtain⟨gf,ef⟩:=aH eHf h3
    have saf:bc Ha Hf:=sb.trans (gc.trans (sd.trans (ge.trans gf)))
    have hTf:=hTa.same saf
    refine⟨q3,rfl,⟨_,SqT.of ef⟩,uh (K:=K) (a:=q3) (xs:=[.ref q1,.ref q2]) (fun i σ Hg=>(∃ u7 u8 u9:Option V,σ=[some (.ref p1),some (.int z),some (.ref pd),some (.int (n:Int)),some (.str (S l)),u5,some (.int (0+(j:Int))),u7,u8,u9])/\fL Hf Hg/\TabOk Hg T Kp) ⟨⟨_,_,_,rfl⟩,fL.refl _,hTf⟩ (fun i σ Hg _ h=>SqT.of (stT h.2.1 ef)) ?_ ?_⟩
    ·rintro i x σ Hg hx ⟨⟨u7,u8,u9,rfl⟩,sg,hTg⟩
     have both:∃ (fi qi:Addr) (v:V) (o:Option Dm),x = .ref qi/\Hg qi=some (.tup [.ref fi,v])/\VO Hg v o/\Asks f1 f2 (rJ C rdT Rep) (rJ C Hj Rep) C fi l o:=by
      obtain (rfl | rfl):i=0∨i=1:=by
       have:=(List.getElem?_eq_some_iff.mp hx).1
       have:i < 2:=this
       lia
      ·cases (show some (V.ref q1)=some x from hx)
       exact⟨f1,q1,va,_,rfl,stT sg (gf _ _ (ge _ _ (sd _ _ ec))),(vo1.s (gc.trans (sd.trans (ge.trans gf))).t).s sg,A1⟩
      ·cases (show some (V.ref q2)=some x from hx)
       exact⟨f2,q2,vb,_,rfl,stT sg (gf _ _ ee),(vo2.s (ge.trans gf).t).s sg,A2⟩
     obtain⟨fi,qi,v,o,rfl,eq,vo,ask⟩:=both
     refine⟨qi,_,rfl,SqT.of eq,rfl,_,_,rfl,_,_,rfl,rfl,?_⟩
     rcases vo with⟨rfl,rfl⟩ | ⟨d,rfl,rv,⟨av,rfl⟩,dd⟩
     ·refine⟨_,rfl,_,rfl,bR ⟨small (by show 1<=1000; decide),fun p5 h5=>?_⟩⟩
      generalize eHh:upd Hg p5 _=Hh
      obtain⟨gh,eh⟩:=aH eHh h5
      refine zP (hTg.same gh) R (fun H1 sm tb Q2 E2 th=>⟨_,rfl,(ask H1 Q2 E2 (fun d hd=>by cases hd) fun _=>th).imp (fun y=>⟨y.1,_,rfl,y.2⟩) (fun y=>⟨y.1,_,rfl,y.2⟩)⟩) (fun a H' sm tb ea=>?_)
      refine⟨_,rfl,.ref a,.ref p5,.tup [.str "bad text"],rfl,zr ea,zr (stT sm eh),Hl (by decide),fun Hi si=>⟨_,rfl,dF ?_⟩⟩
      exact⟨⟨_,_,_,rfl⟩,sg.trans (gh.t.trans (sm.trans si.t)),tb.same si⟩
     ·refine⟨_,rfl,_,rfl,dU (fun y=>nomatch y) ⟨_,rfl,small (by show 2<=1000; decide),fun p5 h5=>?_⟩⟩
      generalize eHh:upd Hg p5 _=Hh
      obtain⟨gh,eh⟩:=aH eHh h5
      have rvh:=rv.mono gh
      refine Gm (P:=fun v' H'=>fL Hh H'/\TabOk H' T Kp/\Rep H' v' d) (hTg.same gh) (fun H1 sm tb Q2 E2 hq=>⟨_,rfl,(ask H1 Q2 E2 (fun d' hd' v' H' s' rv'=>hq v' H' ⟨sm.trans s'.t,tb.same s',by cases hd'; exact rv'⟩) fun y=>by cases y).imp (fun y=>⟨y.1,_,rfl,y.2⟩) (fun y=>⟨y.1,_,rfl,y.2⟩)⟩) (fun a v2 H2 H' hp s' ea=>?_)
      obtain⟨sm,tb,rv2⟩:=hp
      have s2:=sm.trans s'.t
      refine⟨_,rfl,.ref a,.ref p5,.tup [.str "told",d],rfl,zE ea (rv2.mono s'),zE (stT s2 eh) (O9 s2 rvh),?_,fun Hi si=>⟨_,rfl,dF ?_⟩⟩
      ·simp only[Dm.dep,jb]
       lia
      ·exact⟨⟨_,_,_,rfl⟩,sg.trans (gh.t.trans (s2.trans si.t)),(tb.same s').same si⟩
    ·rintro σ Hg ⟨⟨u7,u8,u9,rfl⟩,sg,hTg⟩
     exact⟨⟨_,_,_,_,rfl⟩,sa.trans (saf.t.trans sg),hTg⟩
   ·rintro σ Ha ⟨⟨u6,u7,u8,u9,rfl⟩,sa,hTa⟩
    exact⟨⟨_,_,_,_,_,_,_,_,_,rfl⟩,s4.trans (s49.t.trans sa),hTa⟩
  ·rintro σ H4 _
   exact q H4
theorem all_mk {l:W.OpenLaw} {w:Sv} {K:R7} {h:Tf} {mg:Str->Option Value} {fa fq0 fq1 fq2 fq3 fq4 fq5 fq6 fq7 fq8 fq9 fq10 fq11 fq12 fq13 fq14 fq15 fq16 fq17 fq18 fq19 fq20 fq21 fq22 fq23 fq24 fq25 fq26 fq27 fq28 fq29 fq30 fq31 fq32 fq33 fq34:Addr} (X:K.In h) (G:h.Ns RM mg) (hfa:mg "law" = some (.ref fa)) {tk_MOST_FOLK tk_MOST_STEP tk_MOST_SUM tk_MOST_DEPTH tk_FEWEST_PARTS tk_MOST_PARTS tk_MOST_RUNGS tk_FIGURES tk_MOST_FIGURES:ZK} {Cw0 fiw0 Cw1 fiw1:Addr} {bmw0 bmw1:List Value} {mc:Value} {cLaw:Addr}
  (qw0:jj K "BoonError" "BoonError.__init__" Cw0 fiw0 (inClass kJ 0) bmw0)
  (xga:W.specialIn K (.ref Cw0) "__getattribute__" = some (some (.builtin "type.__getattribute__")))
  (xty:W.typeIn K (.ref Cw0)=some mc)
  (xrd:W.readsIn K Cw0 mc=true)
  (xfd:W.findCls K (.ref Cw0) mc "__init__" = some (.val (.ref fiw0)))
  (qw1:jj K "BadText" "BadText.__init__" Cw1 fiw1 (inClass pJ 0) bmw1)
  (mrw1:(R5 Cw1::bmw1).contains (.ref Cw0)=true)
  (qq0:HasDef K "is_number" j6 fq0)
  (qq1:HasDef K "is_crowd" nJ fq1)
  (qq2:HasDef K "are_parts" kI fq2)
  (qq3:HasDef K "is_term_within" fu fq3)
  (qq4:HasDef K "is_term" ql fq4)
  (qq5:HasDef K "mentions" mU fq5)
  (qq6:HasDef K "named" yj fq6)
  (qq7:HasDef K "is_rung" pM fq7)
  (qq8:HasDef K "is_pledge" jZ fq8)
  (qq9:HasDef K "read_number" iu fq9)
  (qq10:HasDef K "read_crowd" jA fq10)
  (qq11:HasDef K "read_plain" jt fq11)
  (qq12:HasDef K "split_outside" gn fq12)
  (qq13:HasDef K "read_within" iM fq13)
  (qq14:HasDef K "read_term" kh fq14)
  (qq15:HasDef K "read_rung" j8 fq15)
  (qq16:HasDef K "read_pledge" iT fq16)
  (qq17:HasDef K "_law_draws" kW fq17)
  (qq18:HasDef K "_law_same" m5 fq18)
  (qq19:HasDef K "_law_word" fM fq19)
  (qq20:HasDef K "_law_under" km fq20)
  (qq21:HasDef K "_law_crowd" j5 fq21)
  (qq22:HasDef K "_law_term" nH fq22)
  (qq23:HasDef K "_law_renamed" iY fq23)
  (qq24:HasDef K "_law_mine" mW fq24)
  (qq25:HasDef K "_law_pledge" jq fq25)
  (qq26:HasDef K "_law_term_text" gk fq26)
  (qq27:HasDef K "_law_pledge_text" eF fq27)
  (qq28:HasDef K "_law_number" ju fq28)
  (qq29:HasDef K "_law_plain" j4 fq29)
  (qq30:HasDef K "_law_pieces" jw fq30)
  (qq31:HasDef K "_law_read" ni fq31)
  (qq32:HasDef K "_law_read_rungs" fC fq32)
  (qq33:HasDef K "_law_bent" nq fq33)
  (qq34:iz K "law" KZ fq34 cLaw 259)
  (v_MOST_FOLK:Uv K RM "MOST_FOLK" = some (some (.int 12 tk_MOST_FOLK)))
  (v_MOST_STEP:Uv K RM "MOST_STEP" = some (some (.int 9 tk_MOST_STEP)))
  (v_MOST_SUM:Uv K RM "MOST_SUM" = some (some (.int 99 tk_MOST_SUM)))
  (v_MOST_DEPTH:Uv K RM "MOST_DEPTH" = some (some (.int 4 tk_MOST_DEPTH)))
  (v_FEWEST_PARTS:Uv K RM "FEWEST_PARTS" = some (some (.int 2 tk_FEWEST_PARTS)))
  (v_MOST_PARTS:Uv K RM "MOST_PARTS" = some (some (.int 6 tk_MOST_PARTS)))
  (v_MOST_RUNGS:Uv K RM "MOST_RUNGS" = some (some (.int 9 tk_MOST_RUNGS)))
  (v_FIGURES:Uv K RM "FIGURES" = some (some (.str "0123456789" tk_FIGURES)))
  (v_MOST_FIGURES:Uv K RM "MOST_FIGURES" = some (some (.int 9 tk_MOST_FIGURES)))
  (z_len:Uv K RM "len" = some none)
  (z_range:Uv K RM "range" = some none)
  (z_all:Uv K RM "all" = some none)
  (z_isinstance:Uv K RM "isinstance" = some none)
  (z_int:Uv K RM "int" = some none)
  (z_bool:Uv K RM "bool" = some none)
  (z_str:Uv K RM "str" = some none)
  (z_list:Uv K RM "list" = some none)
  (z_tuple:Uv K RM "tuple" = some none)
  (z_abs:Uv K RM "abs" = some none)
  (z_max:Uv K RM "max" = some none)
  (z_min:Uv K RM "min" = some none)
  (z_sum:Uv K RM "sum" = some none)
  (z_sorted:Uv K RM "sorted" = some none)
  (z_zip:Uv K RM "zip" = some none)
  (z_reversed:Uv K RM "reversed" = some none)
  (z_divmod:Uv K RM "divmod" = some none)
  (z_set:Uv K RM "set" = some none)
  (z_any:Uv K RM "any" = some none)
  (z_enumerate:Uv K RM "enumerate" = some none)
  (z_ValueError:Uv K RM "ValueError" = some none)
  : ∃ (fd:Tp) (c:Addr),W.codeHdIn K c 259=true/\(∀ (s:Ra) (v:Value),Yg s fd ⟨[v],[]⟩ [("_law_script",v)])/\∀ base:Tf,K.In base->base.Ns RM mg->Aw mg c 259 base->dB l.prog w K mg base CX0 19 fa fd ["_law_script"] (Gy K 259):=by
 have e:=hfa.symm.trans (qq34.name X G)
 cases e
 have B:Bt mg:=⟨Tn X G z_len,Tn X G z_range,Tn X G z_all,Tn X G z_isinstance,Tn X G z_int,Tn X G z_bool,Tn X G z_str,Tn X G z_list,Tn X G z_tuple,Tn X G z_abs,Tn X G z_max,Tn X G z_min,Tn X G z_sum,Tn X G z_sorted,Tn X G z_zip,Tn X G z_reversed,Tn X G z_divmod,Tn X G z_set,Tn X G z_any,Tn X G z_enumerate⟩
 have c_MOST_FOLK:=X3 X G v_MOST_FOLK
 have c_MOST_STEP:=X3 X G v_MOST_STEP
 have c_MOST_SUM:=X3 X G v_MOST_SUM
 have c_MOST_DEPTH:=X3 X G v_MOST_DEPTH
 have c_FEWEST_PARTS:=X3 X G v_FEWEST_PARTS
 have c_MOST_PARTS:=X3 X G v_MOST_PARTS
 have c_MOST_RUNGS:=X3 X G v_MOST_RUNGS
 have c_FIGURES:=X3 X G v_FIGURES
 have c_MOST_FIGURES:=X3 X G v_MOST_FIGURES
 obtain⟨_,Fq34,bq34⟩:=qq34.law (y:="_law_script") fun _ _ _ _ _ _ s v=>.of_eq rfl
 refine⟨_,cLaw,qq34.hd,bq34,fun base _ _ HP=>?_⟩
 have mw0:=qw0.name X G
 obtain⟨_,Fiw0⟩:=qw0.fn
 have biw0:=Fiw0.binds (ps:=["self","word"]) fun _ _ _ _ _ _ us hl=>by obtain⟨x0,x1,rfl⟩:=Qs hl; rfl
 have z_V:=Tn X G z_ValueError
 have Ow0:Kr K Cw0 mc "__init__" fiw0:=⟨xga,xrd,xfd,qw0.kp,rfl⟩
 have FB:=Fx (P:=l.prog) (w:=w) (mg:=mg) (base:=base) Fiw0 z_V
 have Rw1:=qw1.xrd qw0 mrw1
 have Xw1:=PJ qw1 X G bind1 fun _ F=>Dw F mw0 Ow0 FB biw0
 have dd:=fun {x:Str} {st:Stmt} {f:Addr} {ps:List Str} {sp:Sp} {k:Nat} (q:HasDef K x st f)=>q.df (P:=l.prog) (w:=w) (mg:=mg) (base:=base) (ps:=ps) (sp:=sp) (k:=k) X G
 have dx:=fun {x:Str} {st:Stmt} {f:Addr} {ps:List Str} {sp:Sp} {k:Nat} (q:HasDef K x st f)=>q.dx (P:=l.prog) (w:=w) (mg:=mg) (base:=base) (ps:=ps) (sp:=sp) (k:=k) X G
 have Dq17:=dd qq17 cU fun _ F=>wG F B
 have Dq20:=dd qq20 cU fun _ F=>vL F B
 have Dq21:=dd qq21 cU fun _ F=>uR F B
 have S0:Df l.prog w K mg base "_law_same" 0 ["_law_found","_law_due"] (sY 0):=dd qq18 cU fun _ _=>same_none
 have S1:=dd qq18 cU fun _ F=>bA F B S0
 have S2:=dd qq18 cU fun _ F=>bA F B S1
 have S3:=dd qq18 cU fun _ F=>bA F B S2
 have S4:=dd qq18 cU fun _ F=>bA F B S3
 have S5:=dd qq18 cU fun _ F=>bA F B S4
 have S6:=dd qq18 cU fun _ F=>bA F B S5
 have S7:=dd qq18 cU fun _ F=>bA F B S6
 have S8:=dd qq18 cU fun _ F=>bA F B S7
 have S9:=dd qq18 cU fun _ F=>bA F B S8
 have S10:=dd qq18 cU fun _ F=>bA F B S9
 have S11:=dd qq18 cU fun _ F=>bA F B S10
 have S12:=dd qq18 cU fun _ F=>bA F B S11
 have S13:=dd qq18 cU fun _ F=>bA F B S12
 have S14:=dd qq18 cU fun _ F=>bA F B S13
 have T0:Df l.prog w K mg base "_law_term" 1 ["_law_cell","_law_n","_law_deep","_law_most"] (pH 0):=dd qq22 zZ fun _ _=>term_none
 have T1:=dd qq22 zZ fun _ F=>iJ F B Dq17 Dq20 Dq21 T0
 have T2:=dd qq22 zZ fun _ F=>iJ F B Dq17 Dq20 Dq21 T1
 have T3:=dd qq22 zZ fun _ F=>iJ F B Dq17 Dq20 Dq21 T2
 have T4:=dd qq22 zZ fun _ F=>iJ F B Dq17 Dq20 Dq21 T3
 have R0:Df l.prog w K mg base "_law_renamed" 0 ["_law_term_here","_law_row"] (Ak K 0):=dd qq23 cU fun _ _=>G7
 have R1:=dd qq23 cU fun _ F=>gY F B R0
 have R2:=dd qq23 cU fun _ F=>gY F B R1
 have R3:=dd qq23 cU fun _ F=>gY F B R2
 have Dq24:=dd qq24 Ln fun _ F=>xM F B T3 R3
 have Dq25:=dd qq25 Ln fun _ F=>tU F B Dq17 Dq20 Dq21 Dq24
 have Dq0:=dd qq0 lB fun _ F=>uY F B
 have Dq1:=dd qq1 lB fun _ F=>yg F B Dq0
 have W0:Df l.prog w K mg base "is_term_within" 1 ["many","thing","deep"] (jF 0):=dd qq3 lB fun _ _=>wZ
 have P0:=dd qq2 lB fun _ F=>eZ F B c_FEWEST_PARTS c_MOST_PARTS (by decide) Dq0 W0
 have W1:=dd qq3 lB fun _ F=>cH F B c_MOST_STEP c_MOST_SUM c_MOST_FOLK (by decide) Dq0 Dq1 P0
 have P1:=dd qq2 lB fun _ F=>eZ F B c_FEWEST_PARTS c_MOST_PARTS (by decide) Dq0 W1
 have W2:=dd qq3 lB fun _ F=>cH F B c_MOST_STEP c_MOST_SUM c_MOST_FOLK (by decide) Dq0 Dq1 P1
 have P2:=dd qq2 lB fun _ F=>eZ F B c_FEWEST_PARTS c_MOST_PARTS (by decide) Dq0 W2
 have W3:=dd qq3 lB fun _ F=>cH F B c_MOST_STEP c_MOST_SUM c_MOST_FOLK (by decide) Dq0 Dq1 P2
 have P3:=dd qq2 lB fun _ F=>eZ F B c_FEWEST_PARTS c_MOST_PARTS (by decide) Dq0 W3
 have W4:=dd qq3 lB fun _ F=>cH F B c_MOST_STEP c_MOST_SUM c_MOST_FOLK (by decide) Dq0 Dq1 P3
 have P4:=dd qq2 lB fun _ F=>eZ F B c_FEWEST_PARTS c_MOST_PARTS (by decide) Dq0 W4
 have W5:=dd qq3 lB fun _ F=>cH F B c_MOST_STEP c_MOST_SUM c_MOST_FOLK (by decide) Dq0 Dq1 P4
 have Dq4:=dd qq4 cU fun _ F=>Am F B c_MOST_DEPTH W5
 have M0:Df l.prog w K mg base "mentions" 0 ["term"] (pX 0):=dd qq5 bind1 fun _ _=>DK
 have M1:=dd qq5 bind1 fun _ F=>iW F B M0
 have M2:=dd qq5 bind1 fun _ F=>iW F B M1
 have M3:=dd qq5 bind1 fun _ F=>iW F B M2
 have M4:=dd qq5 bind1 fun _ F=>iW F B M3
 have Dq6:=dd qq6 bind1 fun _ F=>Gu F B M4
 have Dq7:=dd qq7 zZ fun _ F=>Ah F B c_MOST_STEP (by decide) Dq0 Dq4 Dq6
 have Dq8:=dd qq8 lB fun _ F=>vI F B c_MOST_RUNGS (by decide) Dq0 Dq7
 have Y0:Df l.prog w K mg base "_law_term_text" 0 ["_law_term_here"] (vA 0):=dd qq26 bind1 fun _ _=>Ft
 have Y1:=dd qq26 bind1 fun _ F=>dD F B Y0
 have Y2:=dd qq26 bind1 fun _ F=>dD F B Y1
 have Y3:=dd qq26 bind1 fun _ F=>dD F B Y2
 have Y4:=dd qq26 bind1 fun _ F=>dD F B Y3
 have Dq27:=dd qq27 bind1 fun _ F=>lZ F B Y4
 have E_read_number:=dx qq9 bind1 fun _ F=>rC F B c_MOST_FIGURES c_FIGURES (by decide+kernel) Dq0 Xw1
 have E_read_crowd:=dx qq10 bind1 fun _ F=>uF F B E_read_number
 have E_read_plain:=dx qq11 bind1 fun _ F=>tW F B E_read_number E_read_crowd
 have Dq12:=dd qq12 cU fun _ F=>oH F B
 have V0:Dx l.prog w K mg base "read_within" 6 ["text","deep"] (Kq Cw1 0):=dx qq13 cU fun _ _=>JH
 have V1:=dx qq13 cU fun _ F=>du F B (by decide) E_read_plain Dq12 V0 Xw1
 have V2:=dx qq13 cU fun _ F=>du F B (by decide) E_read_plain Dq12 V1 Xw1
 have V3:=dx qq13 cU fun _ F=>du F B (by decide) E_read_plain Dq12 V2 Xw1
 have V4:=dx qq13 cU fun _ F=>du F B (by decide) E_read_plain Dq12 V3 Xw1
 have V5:=dx qq13 cU fun _ F=>du F B (by decide) E_read_plain Dq12 V4 Xw1
 have E_read_term:=dx qq14 bind1 fun _ F=>uQ F B c_MOST_DEPTH c_MOST_FOLK V5 Dq4 Xw1
 have E_read_rung:=dx qq15 bind1 fun _ F=>vU F B E_read_number E_read_term
 have E_read_pledge:=dx qq16 bind1 fun _ F=>rG F B c_MOST_FOLK E_read_rung Dq8 Xw1
 have Dq28:=dd qq28 bind1 fun _ F=>ux F B
 have Dq29:=dd qq29 bind1 fun _ F=>uW F B Dq28
 have Dq30:=dd qq30 bind1 fun _ F=>tE F B
 have L1:Df l.prog w K mg base "_law_read" 2 ["_law_text","_law_deep"] (Hw 1):=dd qq31 cU fun _ _=>K3
 have L2:=dd qq31 cU fun _ F=>iQ F B (by decide) (by decide) Dq29 Dq30 L1
 have L3:=dd qq31 cU fun _ F=>iQ F B (by decide) (by decide) Dq29 Dq30 L2
 have L4:=dd qq31 cU fun _ F=>iQ F B (by decide) (by decide) Dq29 Dq30 L3
 have L5:=dd qq31 cU fun _ F=>iQ F B (by decide) (by decide) Dq29 Dq30 L4
 have Dq32:=dd qq32 bind1 fun _ F=>mV F B Dq28 L5
 have Dq33:=dd qq33 cU fun _ F=>xr F B Dq17
 obtain⟨_,Fq19⟩:=qq19.fn
 have mq19:=qq19.name X G
 exact Ob Fq34 B HP mw0 Rw1 Fq19 mq19 Dq17 Dq20 S14 T4 Dq25 Y4 Dq27 Dq33 L5 Dq32 E_read_term E_read_pledge
theorem walk {l:W.OpenLaw} {q:RV} {loose:List Str} {XP:(Str->Option Value)->Tf->Prop} {YP:Sv->Tf->Prop} {d:DefRec} {K:Params->R7} (hn:l.most=some 63) (hdf:d.params.defaults=[])
  (hY:∀ (w:Sv) (h:Tf),YP w h->(K w.params).In h/\h.get? 259=some (W.tabObj #[])) (hno:∀ w:Sv,W.noTabs (K w.params)=true)
  (F:∀ (w:Sv) (mg:Str->Option Value) (fa:Addr) (h:Tf),(K w.params).In h->h.Ns RM mg->mg d.name=some (.ref fa)->∃ (fd:Tp) (c:Addr),W.codeHdIn (K w.params) c 259=true/\(∀ (s:Ra) (u:Value),Yg s fd ⟨[u],[]⟩ [("_law_script",u)]) ∧
   ∀ base:Tf,(K w.params).In base->base.Ns RM mg->Aw mg c 259 base->dB l.prog w (K w.params) mg base CX0 19 fa fd ["_law_script"] (Gy (K w.params) 259)) :
  W.WalkO q loose XP YP l.row.toRowW d [] (fun f vs=>PySem.call f vs) :=
 L2.Fo (n:=63) (k:=19) (x:="_law_script") (q:=Kp) (T:=259) (sp:=fun w=>Gy (K w.params) 259) hn (by decide) hdf ⟨rfl,by decide,by decide⟩ hY hno F fun _ _ a ns hl hT hS=>⟨a,ns,rfl,hS,hl,hT,fun _=>rfl⟩
end My
end
open PySem PySem.W PyProof.Rows
namespace PySem.Challenge.cw_loveboon_k47_texts_that_write_no_term_holds
def tw5424218833449147924:=trivial
def tw5992971996333106872:=trivial
def tw7556123313075578175:=trivial
def tw6601635476702166312:=trivial
def tw137333520876257703:=trivial
def tw4327666991195668172:=trivial
def tw12482793914147970373:=trivial
def tw7887951534250521334:=trivial
def tw16775322830293345765:=trivial
def tw7625749572615493071:=trivial
def tw15072506438203578760:=trivial
def tw281000471871006735:=trivial
def tw9497644474640086889:=trivial
def tw11179095597846523392:=trivial
def tw6477569421383206354:=trivial
def tw12384864000457905133:=trivial
def tw1724629769581654453:=trivial
def tw16179292327858753789:=trivial
def tw16939601503323354342:=trivial
def tw2689499383207449607:=trivial
def tw9684016835289398891:=trivial
def tw14378079504960049748:=trivial
def tw5659991143896627011:=trivial
def tw10678729669788753676:=trivial
def tw13298192598209951660:=trivial
def tw8449994861527473321:=trivial
def tw15275476751373148644:=trivial
def tw83750104766518446:=trivial
def tw7264051475752091573:=trivial
def tw9103750508176123975:=trivial
end PySem.Challenge.cw_loveboon_k47_texts_that_write_no_term_holds
set_option maxRecDepth 100000 in
set_option maxHeartbeats 0 in
theorem PySem.Challenge.cw_loveboon_k47_texts_that_write_no_term_holds : PySem.Challenge.rw_loveboon_k47_texts_that_write_no_term.Holds := by
 w_on; o_law; k_head; (case hw=>w_witness2)
 k_fill
 refine My.walk (l:=PySem.Challenge.rw_loveboon_k47_texts_that_write_no_term) rfl rfl (fun w h Y=>⟨W.km_in_of Y,W.km_tabs_of Y 259 (by simp)⟩) (fun w=>by kernel_rfl) ?F
 case F =>
  intro w mg fa h KX G hmg
  refine' My.all_mk KX G hmg ?qw0 ?xga ?xty ?xrd ?xfd ?qw1 ?mrw1 ?qq0 ?qq1 ?qq2 ?qq3 ?qq4 ?qq5 ?qq6 ?qq7 ?qq8 ?qq9 ?qq10 ?qq11 ?qq12 ?qq13 ?qq14 ?qq15 ?qq16 ?qq17 ?qq18 ?qq19 ?qq20 ?qq21 ?qq22 ?qq23 ?qq24 ?qq25 ?qq26 ?qq27 ?qq28 ?qq29 ?qq30 ?qq31 ?qq32 ?qq33 ?qq34 ?v_MOST_FOLK ?v_MOST_STEP ?v_MOST_SUM ?v_MOST_DEPTH ?v_FEWEST_PARTS ?v_MOST_PARTS ?v_MOST_RUNGS ?v_FIGURES ?v_MOST_FIGURES ?z_len ?z_range ?z_all ?z_isinstance ?z_int ?z_bool ?z_str ?z_list ?z_tuple ?z_abs ?z_max ?z_min ?z_sum ?z_sorted ?z_zip ?z_reversed ?z_divmod ?z_set ?z_any ?z_enumerate ?z_ValueError
  (case qw0=>apply L2.jj.mk <;> first | exact⟨rfl,rfl,rfl,rfl⟩ | k_is | rfl)
  (case xga|xty|xrd|xfd=>k_is)
  (case qw1=>apply L2.jj.mk <;> first | exact⟨rfl,rfl,rfl,rfl⟩ | k_is | rfl)
  (case mrw1=>rfl)
  (case qq0|qq1|qq2|qq3|qq4|qq5|qq6|qq7|qq8|qq9|qq10|qq11|qq12|qq13|qq14|qq15|qq16|qq17|qq18|qq19|qq20|qq21|qq22|qq23|qq24|qq25|qq26|qq27|qq28|qq29|qq30|qq31|qq32|qq33=>apply L2.HasDef.mk <;> k_is)
  (case qq34=>apply L2.iz.mk <;> first | k_is | kernel_rfl)
  (case v_MOST_FOLK|v_MOST_STEP|v_MOST_SUM|v_MOST_DEPTH|v_FEWEST_PARTS|v_MOST_PARTS|v_MOST_RUNGS|v_FIGURES|v_MOST_FIGURES|z_len|z_range|z_all|z_isinstance|z_int|z_bool|z_str|z_list|z_tuple|z_abs|z_max|z_min|z_sum|z_sorted|z_zip|z_reversed|z_divmod|z_set|z_any|z_enumerate|z_ValueError=>k_is)
